/- The walk through a code that finds its heights: as plain functions; what it is that a world holds it. -/
import Derived.Test.YtggpehmljpanjaaStkLaw
set_option linter.unusedSimpArgs false
set_option linter.unusedVariables false
set_option maxRecDepth 10000
namespace Go.Proofs.Ytggpehmljpanjaa
open Go.RowKit

/-- A walk: the heights, what is open (the last one first), whether there was a fault. -/
structure KW where
  hs : List Int
  op : List Nat
  f : Bool

/-- A place is come to with so many values. -/
def kCome (n : Nat) (st : KW) (to h : Int) : KW :=
  if (n : Int) ≤ to ∨ 64 < h then ⟨st.hs, st.op, true⟩
  else match st.hs[to.toNat]? with
    | none => st
    | some x => if x = -1 then ⟨st.hs.set to.toNat h, to.toNat :: st.op, st.f⟩ else if x = h then st else ⟨st.hs, st.op, true⟩
/-- All places that an instruction leads to. -/
def kComes (n : Nat) (h : Int) : List Int → KW → KW
  | [], st => st
  | to :: r, st => kComes n h r (kCome n st to h)
/-- One goes on from a place. -/
def kLeave (code : List KI) (st : KW) (j : Nat) : KW :=
  match code[j]? with
  | none => st
  | some i => match st.hs[j]? with
    | none => st
    | some x => if x - kPops i < 0 then ⟨st.hs, st.op, true⟩ else kComes code.length (x - kPops i + kPush i) (kNext code j) st
/-- The walk itself, with so many steps at most. -/
def kRun (code : List KI) : Nat → KW → Option KW
  | 0, _ => none
  | k + 1, st => if st.f then some st else match st.op with
    | [] => some st
    | j :: r => kRun code k (kLeave code ⟨st.hs, r, st.f⟩ j)
/-- The heights of a code; none of them if there was a fault. -/
def kHts (code : List KI) (k : Nat) : Option (Option (List Int)) :=
  match kRun code k (kCome code.length ⟨List.replicate code.length (-1), [], false⟩ 0 0) with
  | none => none
  | some st => if st.f then some none else some (some st.hs)

theorem kCome_len (n : Nat) (st : KW) (to h : Int) : (kCome n st to h).hs.length = st.hs.length ∧ (kCome n st to h).op.length ≤ st.op.length + 1 := by
  unfold kCome
  split
  · exact ⟨rfl, by simp⟩
  · split
    · exact ⟨rfl, by simp⟩
    · split
      · exact ⟨by simp, by simp⟩
      · split
        · exact ⟨rfl, by simp⟩
        · exact ⟨rfl, by simp⟩
theorem kComes_len (n : Nat) (h : Int) : ∀ (l : List Int) (st : KW), (kComes n h l st).hs.length = st.hs.length ∧ (kComes n h l st).op.length ≤ st.op.length + l.length := by
  intro l
  induction l with
  | nil => intro st; exact ⟨rfl, by simp [kComes]⟩
  | cons x l ih =>
    intro st
    have h1 := kCome_len n st x h
    have h2 := ih (kCome n st x h)
    rw [kComes]
    refine ⟨h2.1.trans h1.1, ?_⟩
    have := h2.2
    have := h1.2
    simp only [List.length_cons]
    omega
theorem kLeave_len (code : List KI) (st : KW) (j : Nat) : (kLeave code st j).hs.length = st.hs.length ∧ (kLeave code st j).op.length ≤ st.op.length + 2 := by
  unfold kLeave
  split
  · exact ⟨rfl, by omega⟩
  · split
    · exact ⟨rfl, by omega⟩
    · split
      · exact ⟨rfl, by simp⟩
      · have h1 := kComes_len code.length
        obtain ⟨a, b⟩ := h1 _ (kNext code j) st
        exact ⟨a, Nat.le_trans b (Nat.add_le_add_left (kNext_len _ _) _)⟩

/-- What is open lies within the code; so does where it leads. -/
def KOk (n : Nat) (st : KW) : Prop := st.hs.length = n ∧ (∀ j ∈ st.op, j < n) ∧ (∀ x ∈ st.hs, -1 ≤ x ∧ x ≤ 64)
theorem KOk.come {n : Nat} {st : KW} (h : KOk n st) (to x : Int) (h0 : 0 ≤ to) (hx : -1 ≤ x) : KOk n (kCome n st to x) := by
  unfold kCome
  split
  · exact h
  · split
    · exact h
    · split
      · refine ⟨by simpa using h.1, fun j hj => ?_, fun y hy => ?_⟩
        · rcases List.mem_cons.1 hj with rfl | hj
          · omega
          · exact h.2.1 j hj
        · rcases List.mem_or_eq_of_mem_set hy with hy | rfl
          · exact h.2.2 y hy
          · omega
      · split
        · exact h
        · exact h
/-- No instruction of a code leads below its first. -/
def KNb (code : List KI) : Prop := ∀ (j : Nat) (x : Int), x ∈ kNext code j → 0 ≤ x

/-- The world holds a walk: its own block, the heights' block, the row of what is open. -/
structure WkS (w0 w : World) (B H : Nat) (a : Option Addr) (cap n : Nat) (st : KW) (oa : Option Addr) (oc : Nat) : Prop where
  ext : Ext w0 w
  bB : w0.heap.size ≤ B
  bH : w0.heap.size ≤ H
  ne : B ≠ H
  rB : w.heap[B]? = some (.cells #[.slice a n cap, .slice (some ⟨H, 0, none⟩) n n, .slice oa st.op.length oc, .bool st.f] 61 (0, 0))
  rH : w.heap[H]? = some (.cells (zs st.hs).toArray 3 (0, 0))
  ok : KOk n st
  own : w.ownsRow w0.heap.size 3 1 (.slice oa st.op.length oc) st.op.length (ns st.op.reverse)
  aB : ∀ k, (Value.slice oa st.op.length oc).ownBlock = some k → k ≠ B ∧ k ≠ H

/-- The block of a slice. -/
abbrev obk (oa : Option Addr) : Option Nat := (Value.slice oa 0 0).ownBlock
theorem obk_eq (oa : Option Addr) (n c : Nat) : (Value.slice oa n c).ownBlock = obk oa := by cases oa <;> rfl

/-- Of what stood only the walk's own blocks have turned; its row of what is open stays or lies in a new block. -/
structure WkF (B H : Nat) (oa oa' : Option Addr) (w w' : World) : Prop where
  size : w.heap.size ≤ w'.heap.size
  keep : ∀ k, k < w.heap.size → k ≠ B → k ≠ H → obk oa ≠ some k → w'.heap[k]? = w.heap[k]?
  own : ∀ k, obk oa' = some k → obk oa = some k ∨ w.heap.size ≤ k
theorem WkF.of {B H : Nat} {oa : Option Addr} {w w' : World} (h : Ext w w') : WkF B H oa oa w w' := ⟨h.size, fun k hk _ _ _ => h.block k hk, fun k hk => Or.inl hk⟩
theorem WkF.trans {B H : Nat} {o1 o2 o3 : Option Addr} {a b c : World} (h : WkF B H o1 o2 a b) (k : WkF B H o2 o3 b c) : WkF B H o1 o3 a c := by
  refine ⟨Nat.le_trans h.size k.size, fun i hi h1 h2 h3 => (k.keep i (Nat.lt_of_lt_of_le hi h.size) h1 h2 (fun e => ?_)).trans (h.keep i hi h1 h2 h3), fun i hi => ?_⟩
  · rcases h.own i e with e2 | e2
    · exact h3 e2
    · omega
  · rcases k.own i hi with e | e
    · exact h.own i e
    · exact Or.inr (Nat.le_trans h.size e)

theorem WkS.on {w0 w w' : World} {B H : Nat} {a : Option Addr} {cap n : Nat} {st : KW} {oa : Option Addr} {oc : Nat} (h : WkS w0 w B H a cap n st oa oc) (k : Ext w w') : WkS w0 w' B H a cap n st oa oc :=
  ⟨h.ext.trans k, h.bB, h.bH, h.ne, (k.block B (k_lt h.rB)).trans h.rB, (k.block H (k_lt h.rH)).trans h.rH, h.ok, k_own_heap h.own (fun i hi => k.block i (h.own.lt i hi).2), h.aB⟩

theorem WkS.fault {w0 w : World} {B H : Nat} {a : Option Addr} {cap n : Nat} {st : KW} {oa : Option Addr} {oc : Nat} (h : WkS w0 w B H a cap n st oa oc) : WkS w0 (w.setCell ⟨B, 3, none⟩ (.bool true)) B H a cap n ⟨st.hs, st.op, true⟩ oa oc :=
  ⟨h.ext.set h.bB _, h.bB, h.bH, h.ne, by simpa only [List.setIfInBounds_toArray, List.set_cons_zero, List.set_cons_succ] using k_row_set h.rB 3 (.bool true), k_row_other h.rH (Ne.symm h.ne) _ _, h.ok, k_own_heap h.own (fun i hi => Below.heap_setCell _ _ _ _ (h.aB i hi).1), h.aB⟩
theorem WkF.fault (w : World) (B H : Nat) (oa : Option Addr) : WkF B H oa oa w (w.setCell ⟨B, 3, none⟩ (.bool true)) :=
  ⟨by simp [World.setCell], fun k _ h1 _ _ => Below.heap_setCell _ _ _ _ h1, fun k hk => Or.inl hk⟩

end Go.Proofs.Ytggpehmljpanjaa
