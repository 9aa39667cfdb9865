/- Cycles without a tick: as plain functions; what it is that a world holds what is left of the ways. -/
import Derived.Test.YtggpehmljpanjaaStkTk
set_option linter.unusedSimpArgs false
set_option linter.unusedVariables false
set_option maxRecDepth 10000
namespace Go.Proofs.Ytggpehmljpanjaa
open Go.RowKit

/-- One more way into each of these places. -/
def kAdd : List Int → List Int → Option (List Int)
  | [], into => some into
  | to :: r, into => if to < 0 then none else match into[to.toNat]? with
    | none => none
    | some x => if -1000000 ≤ x ∧ x ≤ 1000000 then kAdd r (into.set to.toNat (x + 1)) else none
/-- The ways of what counts, from a place on. -/
def kL1 (code : List KI) (hs : List Int) : Nat → Nat → Int → List Int → Option (Int × List Int)
  | 0, _, left, into => some (left, into)
  | m + 1, j, left, into => match kCnt code hs j with
    | none => none
    | some false => kL1 code hs m (j + 1) left into
    | some true => match kAdd (kNext code j) into with
      | none => none
      | some into' => kL1 code hs m (j + 1) (left + 1) into'
/-- What counts and no way leads to, from a place on. -/
def kL2 (code : List KI) (hs into : List Int) : Nat → Nat → List Nat → Option (List Nat)
  | 0, _, free => some free
  | m + 1, j, free => match kCnt code hs j with
    | none => none
    | some false => kL2 code hs into m (j + 1) free
    | some true => match into[j]? with
      | none => none
      | some x => kL2 code hs into m (j + 1) (if x = 0 then j :: free else free)
/-- One way less into each of these places. -/
def kSub (code : List KI) (hs : List Int) : List Int → List Int → List Nat → Option (List Int × List Nat)
  | [], into, free => some (into, free)
  | to :: r, into, free => if to < 0 then none else match into[to.toNat]? with
    | none => none
    | some x => if -1000000 ≤ x ∧ x ≤ 1000000 then
        (if x - 1 = 0 then (match kCnt code hs to.toNat with
          | none => none
          | some c => kSub code hs r (into.set to.toNat (x - 1)) (if c then to.toNat :: free else free))
        else kSub code hs r (into.set to.toNat (x - 1)) free) else none
/-- What no way leads to is taken away, again and again. -/
def kL4 (code : List KI) (hs : List Int) : Nat → Int → List Int → List Nat → Option Int
  | 0, _, _, _ => none
  | k + 1, left, into, free => match free with
    | [] => some left
    | j :: r => if -1000000 ≤ left ∧ left ≤ 1000000 then (match kSub code hs (kNext code j) into r with
      | none => none
      | some q => kL4 code hs k (left - 1) q.1 q.2) else none
/-- Is there a cycle? -/
def kCyc (code : List KI) (hs : List Int) (K : Nat) : Option Bool :=
  match kL1 code hs code.length 0 0 (List.replicate code.length 0) with
  | none => none
  | some q => match kL2 code hs q.2 code.length 0 [] with
    | none => none
    | some free => match kL4 code hs K q.1 q.2 free with
      | none => none
      | some l => some (decide (0 < l))

structure CyS (w wr : World) (a : Option Addr) (cap : Nat) (ha : Option Addr) (hcap n : Nat) (into : List Int) (free : List Nat) (fa : Option Addr) (fc : Nat) : Prop where
  ext : Ext w wr
  rX : wr.heap[w.heap.size]? = some (.cells #[.slice a n cap] 24 (0, 0))
  rY : wr.heap[w.heap.size + 1]? = some (.cells #[.slice ha n hcap] 42 (0, 0))
  rI : wr.heap[w.heap.size + 1 + 1]? = some (.cells (zs into).toArray 3 (0, 0))
  len : into.length = n
  own : wr.ownsRow (w.heap.size + 3) 3 1 (.slice fa free.length fc) free.length (ns free.reverse)

def NxR (w wr : World) (fa nb : Option Addr) (nx : List Int) : Prop := RepZ wr (fun b => w.heap.size + 3 ≤ b ∧ b < wr.heap.size ∧ obk fa ≠ some b) nb nx

section
variable {w wr w2 : World} {a : Option Addr} {cap : Nat} {ha : Option Addr} {hcap n : Nat} {into : List Int} {free : List Nat} {fa : Option Addr} {fc : Nat} {nb : Option Addr} {nx : List Int}

theorem CyS.on (h : CyS w wr a cap ha hcap n into free fa fc) (x : Ext wr w2) : CyS w w2 a cap ha hcap n into free fa fc :=
  ⟨h.ext.trans x, (x.block _ (k_lt h.rX)).trans h.rX, (x.block _ (k_lt h.rY)).trans h.rY, (x.block _ (k_lt h.rI)).trans h.rI, h.len, k_own_heap h.own (fun i hi => x.block i (h.own.lt i hi).2)⟩
theorem CyS.setI (h : CyS w wr a cap ha hcap n into free fa fc) (j : Nat) (v : Int) : CyS w (wr.setCell ⟨w.heap.size + 1 + 1, j, none⟩ (.int .i64 v)) a cap ha hcap n (into.set j v) free fa fc := by
  refine ⟨h.ext.set (by simp only; omega) _, k_row_other h.rX (by omega) _ _, k_row_other h.rY (by omega) _ _, ?_, by simpa using h.len, k_own_heap h.own (fun i hi => Below.heap_setCell _ _ _ _ (by have := (h.own.lt i hi).1; simp only; omega))⟩
  rw [k_row_set h.rI j (.int .i64 v)]
  simp [zs, List.map_set]
theorem CyS.pop {j : Nat} {r : List Nat} (h : CyS w wr a cap ha hcap n into (j :: r) fa fc) : CyS w wr a cap ha hcap n into r fa fc := by
  have ho := k_own_prefix (m := r.length) h.own (by simp)
  have e : (ns (j :: r).reverse).take (r.length * 1) = ns r.reverse := by
    rw [Nat.mul_one]
    simp only [ns, List.reverse_cons, List.map_append]
    rw [List.take_append_of_le_length (by simp)]
    rw [List.take_of_length_le (by simp)]
  rw [e] at ho
  exact ⟨h.ext, h.rX, h.rY, h.rI, h.len, ho⟩
theorem CyS.top {j : Nat} {r : List Nat} (h : CyS w wr a cap ha hcap n into (j :: r) fa fc) : ∃ g, fa = some ⟨g, 0, none⟩ ∧ r.length + 1 ≤ fc ∧ wr.cell? ⟨g, r.length, none⟩ = some (.int .i64 (j : Int)) := by
  have ho := h.own
  obtain ⟨h1, ⟨e, h0⟩ | ⟨g, cap2, cur, e, hb, hg, hn, _⟩⟩ := id ho
  · simp at h0
  · injection e with e1 e2 e3
    subst e1 e3
    have hc := ho.cells (g := g) rfl r.length (.int .i64 (j : Int)) (by simp [ns])
    rw [k_add] at hc
    exact ⟨g, rfl, hn, hc⟩
theorem CyS.push {j g' cap' : Nat} {ob : Obj} (h : CyS w wr a cap ha hcap n into free fa fc) (g1 : (wr.alloc ob).grownBy w2 (Value.slice fa free.length fc).ownBlock)
    (ho : w2.ownsRow (w.heap.size + 3) 3 1 (.slice (some ⟨g', 0, none⟩) (free.length + 1) cap') (free.length + 1) (ns free.reverse ++ [.int .i64 (j : Int)])) : CyS w w2 a cap ha hcap n into (j :: free) (some ⟨g', 0, none⟩) cap' := by
  have h2 := h.on (Ext.alloc wr ob)
  have hk : ∀ i, i < w.heap.size + 3 → i < (wr.alloc ob).heap.size → w2.heap[i]? = (wr.alloc ob).heap[i]? := fun i hi hl => g1.block i hl (fun e => by have := (h2.own.lt i e.symm).1; omega)
  exact ⟨Below.grown h2.ext g1 h2.ext.size (fun j hj => by have := (h2.own.lt j hj).1; omega), (hk _ (by omega) (k_lt h2.rX)).trans h2.rX, (hk _ (by omega) (k_lt h2.rY)).trans h2.rY, (hk _ (by omega) (k_lt h2.rI)).trans h2.rI, h.len, by simpa [ns] using ho⟩
theorem NxR.on (h : NxR w wr fa nb nx) (x : Ext wr w2) : NxR w w2 fa nb nx := h.to fun b hb => ⟨⟨hb.1, Nat.lt_of_lt_of_le hb.2.1 x.size, hb.2.2⟩, x.block b hb.2.1⟩
theorem NxR.setI (h : NxR w wr fa nb nx) (j : Nat) (v : Value) : NxR w (wr.setCell ⟨w.heap.size + 1 + 1, j, none⟩ v) fa nb nx :=
  h.to fun b hb => ⟨⟨hb.1, by simp [World.setCell]; exact hb.2.1, hb.2.2⟩, Below.heap_setCell _ _ _ _ (by have := hb.1; simp only; omega)⟩
theorem NxR.push {g' m c : Nat} {ob : Obj} (h : NxR w wr fa nb nx) (g1 : (wr.alloc ob).grownBy w2 (Value.slice fa m c).ownBlock) (hw : (Value.slice fa m c).ownBlock = some g' ∨ (wr.alloc ob).heap.size ≤ g') : NxR w w2 (some ⟨g', 0, none⟩) nb nx := by
  refine (h.on (Ext.alloc wr ob)).to fun b hb => ⟨⟨hb.1, Nat.lt_of_lt_of_le hb.2.1 g1.size, fun e => ?_⟩, g1.block b hb.2.1 (fun e => hb.2.2 (by rw [obk_eq] at e; exact e.symm))⟩
  simp only [obk, Value.ownBlock, Option.some.injEq] at e
  subst e
  rcases hw with e | e
  · rw [obk_eq] at e
    exact hb.2.2 e
  · have := hb.2.1; omega
theorem NxR.new {w3 : World} (hs : w.heap.size + 3 ≤ wr.heap.size) (hf : ∀ k, obk fa = some k → k < wr.heap.size) (h : RepZ w3 (Fr2 wr w3) nb nx) : NxR w w3 fa nb nx :=
  h.to fun b hb => ⟨⟨Nat.le_trans hs hb.1, hb.2, fun e => by have := hf b e; have := hb.1; omega⟩, rfl⟩
theorem NxR.at {j : Nat} {x : Int} (h : NxR w wr fa nb nx) (hx : nx[j]? = some x) : ∃ b, nb = some ⟨b, 0, none⟩ ∧ wr.cell? ⟨b, j, none⟩ = some (.int .i64 x) := by
  rcases h with h | ⟨b, e, _, hc⟩
  · rw [h] at hx; simp at hx
  · exact ⟨b, e, hc j x hx⟩
theorem CyS.fresh (h : CyS w wr a cap ha hcap n into free fa fc) : w.heap.size + 3 ≤ wr.heap.size ∧ ∀ k, obk fa = some k → k < wr.heap.size :=
  ⟨k_lt h.rI, fun k e => (h.own.lt k (by rw [obk_eq]; exact e)).2⟩
end

end Go.Proofs.Ytggpehmljpanjaa
