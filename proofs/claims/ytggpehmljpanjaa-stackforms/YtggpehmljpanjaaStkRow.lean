/- A row of instructions under way. -/
import Derived.Test.YtggpehmljpanjaaStkAw
set_option linter.unusedSimpArgs false
set_option linter.unusedVariables false
set_option maxRecDepth 10000
namespace Go.Proofs.Ytggpehmljpanjaa
open Go.RowKit

abbrev kiC (i : KI) : List Value := [.int .i64 i.op, .int .i64 i.a, .int .i64 i.b]
/-- A row of the call's own that holds the instructions l. -/
structure RowK (w wr : World) (l : List KI) (v : Value) : Prop where
  ext : Ext w wr
  own : wr.ownsRow w.heap.size 23 3 v l.length (l.flatMap kiC)

theorem k_infoS : ∃ i0, Try.prog.info? 23 = some i0 ∧ i0.zero = some (.agg #[.int .i64 0, .int .i64 0, .int .i64 0]) ∧ i0.size = 3 ∧ i0.bytes = 24 := by
  have h : (Try.prog.info? 23).map (fun i => (i.zero, i.size, i.bytes)) = some (some (.agg #[.int .i64 0, .int .i64 0, .int .i64 0]), 3, 24) := by kernel_rfl
  cases hi : Try.prog.info? 23 with
  | none => rw [hi] at h; cases h
  | some i =>
    rw [hi] at h
    simp at h
    exact ⟨i, rfl, h.1, h.2.1, h.2.2⟩
theorem k_one_ki (l : List KI) : ∀ u ∈ l.flatMap kiC, u.oneCell' = true := by
  intro u hu
  rw [List.mem_flatMap] at hu
  obtain ⟨i, _, hi⟩ := hu
  simp at hi
  rcases hi with rfl | rfl | rfl <;> rfl
theorem k_len_ki (l : List KI) : (l.flatMap kiC).length = l.length * 3 := by
  induction l with
  | nil => rfl
  | cons x l ih => rw [List.flatMap_cons, List.length_append, ih]; simp; omega
theorem k_at_ki {l : List KI} {j : Nat} {i : KI} (h : l[j]? = some i) : (l.flatMap kiC)[j * 3]? = some (.int .i64 i.op) ∧ (l.flatMap kiC)[j * 3 + 1]? = some (.int .i64 i.a) ∧ (l.flatMap kiC)[j * 3 + 2]? = some (.int .i64 i.b) := by
  induction l generalizing j with
  | nil => simp at h
  | cons x l ih =>
    rw [List.flatMap_cons]
    cases j with
    | zero => simp at h; subst h; exact ⟨rfl, rfl, rfl⟩
    | succ j =>
      have := ih (j := j) (by simpa using h)
      have e : ∀ k, (kiC x ++ l.flatMap kiC)[(j + 1) * 3 + k]? = (l.flatMap kiC)[j * 3 + k]? := fun k => by
        rw [List.getElem?_append_right (by simp; omega)]
        congr 1
        simp
        omega
      refine ⟨?_, ?_, ?_⟩
      · rw [show (j + 1) * 3 = (j + 1) * 3 + 0 from rfl, e 0]; exact this.1
      · rw [e 1]; exact this.2.1
      · rw [e 2]; exact this.2.2

theorem RowK.nil {w wr : World} (h : Ext w wr) : RowK w wr [] (.slice none 0 0) := ⟨h, World.ownsRow_nil _ _ _ _⟩
theorem RowK.val {w wr : World} {l : List KI} {v : Value} (h : RowK w wr l v) : ∃ a c, v = .slice a l.length c := by
  obtain ⟨_, ⟨rfl, h0⟩ | ⟨g, cap, cur, rfl, _⟩⟩ := h.own
  · exact ⟨none, 0, by rw [h0]⟩
  · exact ⟨_, cap, rfl⟩
theorem RowK.rep {w wr : World} {l : List KI} {a : Option Addr} {n c : Nat} (h : RowK w wr l (.slice a n c)) : RepC wr (In wr) a l := by
  have ho := h.own
  obtain ⟨h1, ⟨e, h0⟩ | ⟨g, cap, cur, e, hb, hg, hn, _⟩⟩ := id ho
  · exact Or.inl (List.length_eq_zero_iff.1 h0)
  · injection e with e1 e2 e3
    subst e1 e2 e3
    refine Or.inr ⟨g, 0, rfl, k_lt hg, fun j i hi => ?_⟩
    have hc := fun k u hu => by
      have := ho.cells (g := g) rfl k u hu
      rw [k_add] at this
      exact this
    obtain ⟨a0, a1, a2⟩ := k_at_ki hi
    rw [Nat.zero_add]
    exact ⟨hc _ _ a0, hc _ _ a1, hc _ _ a2⟩
theorem RowK.on {w wr w2 : World} {l : List KI} {v : Value} (h : RowK w wr l v) (x : Ext wr w2) : RowK w w2 l v :=
  ⟨h.ext.trans x, k_own_heap h.own (fun i hi => x.block i (h.own.lt i hi).2)⟩
theorem RowK.grow {w wr w2 : World} {l m : List KI} {a : Option Addr} {c g' cap' : Nat} {ob : Obj} (h : RowK w wr l (.slice a l.length c)) (g1 : (wr.alloc ob).grownBy w2 (Value.slice a l.length c).ownBlock)
    (ho : w2.ownsRow w.heap.size 23 3 (.slice (some ⟨g', 0, none⟩) (l.length + m.length) cap') (l.length + m.length) (l.flatMap kiC ++ m.flatMap kiC)) : RowK w w2 (l ++ m) (.slice (some ⟨g', 0, none⟩) (l ++ m).length cap') := by
  have h2 := h.on (Ext.alloc wr ob)
  refine ⟨Below.grown h2.ext g1 h2.ext.size (fun j hj => (h2.own.lt j hj).1), ?_⟩
  rw [List.length_append, List.flatMap_append]
  exact ho

theorem RowK.app {w wr : World} {l : List KI} {a : Option Addr} {n c : Nat} (h : RowK w wr l (.slice a n c)) (hl : l.length = n) (m : List KI) :
    (∀ ob, (wr.alloc ob).ownsRow w.heap.size 23 3 (.slice a n c) n (l.flatMap kiC)) ∧
    (∀ ob w2 g' cap', (wr.alloc ob).grownBy w2 (Value.slice a n c).ownBlock → w2.ownsRow w.heap.size 23 3 (.slice (some ⟨g', 0, none⟩) (n + m.length) cap') (n + m.length) (l.flatMap kiC ++ m.flatMap kiC) → RowK w w2 (l ++ m) (.slice (some ⟨g', 0, none⟩) (n + m.length) cap')) := by
  subst hl
  refine ⟨fun ob => (h.on (Ext.alloc wr ob)).own, fun ob w2 g' cap' g1 ho => ?_⟩
  have := h.grow g1 ho
  rw [List.length_append] at this
  exact this

end Go.Proofs.Ytggpehmljpanjaa
