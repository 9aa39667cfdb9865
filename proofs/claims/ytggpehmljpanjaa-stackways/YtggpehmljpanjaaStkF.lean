/- Code for a stack as plain data: what an instruction takes and leaves, where it leads; what it is that a world holds it. -/
import Derived.Test.YtggpehmljpanjaaValMake
set_option linter.unusedSimpArgs false
set_option linter.unusedVariables false
set_option maxRecDepth 10000
namespace Go.Proofs.Ytggpehmljpanjaa
open Go.RowKit

/-- An instruction. -/
structure KI where
  op : Int
  a : Int
  b : Int
abbrev kiV (i : KI) : Value := .agg #[.int .i64 i.op, .int .i64 i.a, .int .i64 i.b]

/-- How many values it takes. -/
def kPops (i : KI) : Int :=
  if i.op = 3 ∨ i.op = 4 ∨ i.op = 6 ∨ i.op = 8 ∨ i.op = 10 ∨ i.op = 11 then 1 else if i.op = 5 then 2 else if i.op = 9 then (if i.b < 0 then 0 else i.b) else if i.op = 13 then (if i.a < 0 then 0 else i.a) else 0
/-- How many it leaves. -/
def kPush (i : KI) : Int := if i.op = 1 ∨ i.op = 2 ∨ i.op = 5 ∨ i.op = 6 ∨ i.op = 9 ∨ i.op = 13 then 1 else 0
/-- Two ways, rising. -/
def kBoth (a b : Int) : List Int := if a = b then [a] else if a < b then [a, b] else [b, a]
/-- How many values an op takes. -/
def kAr (o : Int) : Int := if 1 ≤ o ∧ o ≤ 14 then 2 else if 15 ≤ o ∧ o ≤ 20 then 1 else 0
/-- Where it leads, if it stands at that place. -/
def kLed (i : KI) (at' : Int) : List Int :=
  if i.op = 10 then [] else if i.op = 7 then [i.a] else if i.op = 8 then kBoth i.a (at' + 1) else [at' + 1]
/-- Where the instruction at a place of a code leads. -/
def kNext (l : List KI) (at' : Int) : List Int :=
  if at' < 0 then [] else match l[at'.toNat]? with
    | none => []
    | some i => kLed i at'

theorem kNext_at {l : List KI} {j : Nat} {i : KI} (h : l[j]? = some i) : kNext l (j : Int) = kLed i j := by
  unfold kNext
  rw [if_neg (by omega), show ((j : Int)).toNat = j by omega, h]
theorem kNext_out {l : List KI} {k : Int} (h : k < 0 ∨ (l.length : Int) ≤ k) : kNext l k = [] := by
  unfold kNext
  split
  · rfl
  · rw [List.getElem?_eq_none (by omega)]
theorem kLed_len (i : KI) (k : Int) : (kLed i k).length ≤ 2 := by
  unfold kLed kBoth
  repeat' split
  all_goals simp
theorem kNext_len (l : List KI) (k : Int) : (kNext l k).length ≤ 2 := by
  unfold kNext
  split
  · simp
  · split
    · simp
    · exact kLed_len _ _

/-- An Op is one of the thirteen or none of them. -/
theorem op_cases (o : Int) : o = 1 ∨ o = 2 ∨ o = 3 ∨ o = 4 ∨ o = 5 ∨ o = 6 ∨ o = 7 ∨ o = 8 ∨ o = 9 ∨ o = 10 ∨ o = 11 ∨ o = 12 ∨ o = 13 ∨
    (¬ o = 1 ∧ ¬ o = 2 ∧ ¬ o = 3 ∧ ¬ o = 4 ∧ ¬ o = 5 ∧ ¬ o = 6 ∧ ¬ o = 7 ∧ ¬ o = 8 ∧ ¬ o = 9 ∧ ¬ o = 10 ∧ ¬ o = 11 ∧ ¬ o = 12 ∧ ¬ o = 13) := by omega

/-- From the address a on the world holds the instructions of l, three cells each. -/
def RepC (w : World) (F : Nat → Prop) (a : Option Addr) (l : List KI) : Prop :=
  l = [] ∨ ∃ b o, a = some ⟨b, o, none⟩ ∧ F b ∧ ∀ j i, l[j]? = some i → w.cell? ⟨b, o + j * 3, none⟩ = some (.int .i64 i.op) ∧ w.cell? ⟨b, o + j * 3 + 1, none⟩ = some (.int .i64 i.a) ∧ w.cell? ⟨b, o + j * 3 + 2, none⟩ = some (.int .i64 i.b)
theorem RepC.to {w w' : World} {F F' : Nat → Prop} (h : ∀ b, F b → F' b ∧ w'.heap[b]? = w.heap[b]?) {l : List KI} {a : Option Addr} (hr : RepC w F a l) : RepC w' F' a l := by
  rcases hr with hr | ⟨b, o, rfl, hf, hc⟩
  · exact Or.inl hr
  · refine Or.inr ⟨b, o, rfl, (h b hf).1, fun j i hi => ?_⟩
    have hk : ∀ x, w'.cell? ⟨b, x, none⟩ = w.cell? ⟨b, x, none⟩ := fun x => World.cell?_of_block (w := w) (h b hf).2
    rw [hk, hk, hk]
    exact hc j i hi
theorem RepC.ext {w w' : World} {l : List KI} {a : Option Addr} (hr : RepC w (In w) a l) (h : Ext w w') : RepC w' (In w') a l :=
  hr.to fun b hb => ⟨Nat.lt_of_lt_of_le hb h.size, h.block b hb⟩
theorem RepC.at {w : World} {F : Nat → Prop} {l : List KI} {a : Option Addr} (hr : RepC w F a l) {j : Nat} {i : KI} (h : l[j]? = some i) :
    ∃ b o, a = some ⟨b, o, none⟩ ∧ F b ∧ w.cell? ⟨b, o + j * 3, none⟩ = some (.int .i64 i.op) ∧ w.cell? ⟨b, o + j * 3 + 1, none⟩ = some (.int .i64 i.a) ∧ w.cell? ⟨b, o + j * 3 + 2, none⟩ = some (.int .i64 i.b) := by
  rcases hr with rfl | ⟨b, o, rfl, hf, hc⟩
  · simp at h
  · exact ⟨b, o, rfl, hf, hc j i h⟩

/-- The operands' bounds. -/
def KBd (l : List KI) : Prop := ∀ i ∈ l, -9223372036854775808 ≤ i.a ∧ i.a ≤ 9223372036854775807 ∧ -9223372036854775808 ≤ i.b ∧ i.b ≤ 9223372036854775807

/-- From the address a on the world holds the numbers of l. -/
def RepZ (w : World) (F : Nat → Prop) (a : Option Addr) (l : List Int) : Prop := l = [] ∨ ∃ b, a = some ⟨b, 0, none⟩ ∧ F b ∧ ∀ j x, l[j]? = some x → w.cell? ⟨b, j, none⟩ = some (.int .i64 x)
theorem RepZ.to {w w' : World} {F F' : Nat → Prop} (h : ∀ b, F b → F' b ∧ w'.heap[b]? = w.heap[b]?) {l : List Int} {a : Option Addr} (hr : RepZ w F a l) : RepZ w' F' a l := by
  rcases hr with hr | ⟨b, rfl, hf, hc⟩
  · exact Or.inl hr
  · refine Or.inr ⟨b, rfl, (h b hf).1, fun j x hx => ?_⟩
    rw [World.cell?_of_block (w := w) (h b hf).2]
    exact hc j x hx
theorem RepZ.ext {w w' : World} {l : List Int} {a : Option Addr} (hr : RepZ w (In w) a l) (h : Ext w w') : RepZ w' (In w') a l :=
  hr.to fun b hb => ⟨Nat.lt_of_lt_of_le hb h.size, h.block b hb⟩
/-- Numbers in a block of their own, new behind w. -/
def Fr2 (w w' : World) : Nat → Prop := fun b => w.heap.size ≤ b ∧ b < w'.heap.size
theorem RepZ.inn {w w' : World} {l : List Int} {a : Option Addr} (hr : RepZ w' (Fr2 w w') a l) : RepZ w' (In w') a l := hr.to fun b hb => ⟨hb.2, rfl⟩
theorem RepZ.onn {w w' w2 : World} {l : List Int} {a : Option Addr} (hr : RepZ w' (Fr2 w w') a l) (h : Ext w' w2) : RepZ w2 (Fr2 w w2) a l := hr.to fun b hb => ⟨⟨hb.1, Nat.lt_of_lt_of_le hb.2 h.size⟩, h.block b hb.2⟩
theorem RepZ.up {w0 w w' : World} {l : List Int} {a : Option Addr} (hr : RepZ w' (Fr2 w w') a l) (h : Ext w0 w) : RepZ w' (Fr2 w0 w') a l := hr.to fun b hb => ⟨⟨Nat.le_trans h.size hb.1, hb.2⟩, rfl⟩
theorem repZ_one (w : World) (x : Int) (t : TypeId) : RepZ (w.alloc (.cells #[.int .i64 x] t)) (Fr2 w (w.alloc (.cells #[.int .i64 x] t))) (some ⟨w.heap.size, 0, none⟩) [x] := by
  refine Or.inr ⟨_, rfl, ⟨Nat.le_refl _, by simp⟩, fun j y hy => ?_⟩
  cases j with
  | zero => simp at hy; subst hy; exact cell_box w _ t 0 rfl
  | succ j => simp at hy
theorem repZ_two (w : World) (x y : Int) (t : TypeId) : RepZ (w.alloc (.cells #[.int .i64 x, .int .i64 y] t)) (Fr2 w (w.alloc (.cells #[.int .i64 x, .int .i64 y] t))) (some ⟨w.heap.size, 0, none⟩) [x, y] := by
  refine Or.inr ⟨_, rfl, ⟨Nat.le_refl _, by simp⟩, fun j z hz => ?_⟩
  match j with
  | 0 => simp at hz; subst hz; exact cell_box w _ t 0 rfl
  | 1 => simp at hz; subst hz; exact cell_box w _ t 1 rfl
  | j + 2 => simp at hz

end Go.Proofs.Ytggpehmljpanjaa
