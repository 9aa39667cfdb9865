/- A law of no program: a region that draws its order, by what holds behind each set of operations that have come up. -/
import Derived.Orders
import Derived.Scope
set_option linter.unusedSimpArgs false
set_option linter.unusedVariables false
namespace Go.Proofs.Ytjopfpchbakggaa
open Go

/-- How many have not come up yet. -/
def left (l : Array Bool) : Nat := (l.toList.filter fun b => !b).length

theorem left_set {l : Array Bool} {i : Nat} (hi : l.getD i true = false) : left (l.setIfInBounds i true) + 1 = left l := by
  have hlt : i < l.size := by
    rcases Nat.lt_or_ge i l.size with h | h
    · exact h
    · rw [Array.getD_eq_getD_getElem?, Array.getElem?_eq_none h] at hi; cases hi
  have hv : l[i] = false := by
    rw [Array.getD_eq_getD_getElem?, Array.getElem?_eq_getElem hlt] at hi; exact hi
  unfold left
  rw [Array.toList_setIfInBounds]
  have hs : l.toList = l.toList.take i ++ l[i] :: l.toList.drop (i + 1) := by
    rw [← Array.getElem_toList, ← List.drop_eq_getElem_cons (by simpa using hlt), List.take_append_drop]
  have hset : l.toList.set i true = l.toList.take i ++ true :: l.toList.drop (i + 1) := by
    rw [List.set_eq_take_append_cons_drop, if_pos (by simpa using hlt)]
  rw [hset]
  conv => { rhs; rw [hs] }
  rw [hv]
  simp
  omega

theorem ready_none {md : Region.Mode} {ops : Array Oper} {l : Array Bool} (h : left l = 0) : Region.ready md ops l = [] := by
  unfold Region.ready
  rw [List.filter_eq_nil_iff]
  intro i _ hc
  simp only [Bool.and_eq_true, Bool.not_eq_true'] at hc
  have := left_set hc.1
  omega

theorem ready_open {md : Region.Mode} {ops : Array Oper} {l : Array Bool} {i : Nat} (h : i ∈ Region.ready md ops l) : l.getD i true = false := by
  unfold Region.ready at h
  rw [List.mem_filter] at h
  simp only [Bool.and_eq_true, Bool.not_eq_true'] at h
  exact h.2.1

/-- What holds ahead of each operation that may come up holds behind it: then it holds at the end, in whatever order they come. -/
theorem wpAny_inv {P : Program} {md : Region.Mode} {ops : Array Oper} {Q : Exit → Act → World → Prop} (I : Array Bool → Act → World → Prop)
    (step : ∀ l a w, I l a w → ∀ i, i ∈ Region.ready md ops l → wpOp P ops Q i (fun a' w' => I (l.setIfInBounds i true) a' w') a w)
    (done : ∀ l a w, I l a w → Region.ready md ops l = [] → Q .normal a w) : ∀ (fuel : Nat) (l : Array Bool) (a : Act) (w : World), left l ≤ fuel → I l a w → wpAny P md ops Q fuel l a w
  | 0, l, a, w, hf, h => by
    have h0 := ready_none (md := md) (ops := ops) (l := l) (by omega)
    exact ⟨h0, done l a w h h0⟩
  | fuel + 1, l, a, w, hf, h => by
    refine ⟨fun h0 => done l a w h h0, fun i hi => ?_⟩
    refine wpOp_mono (fun a' w' h' => ?_) (step l a w h i hi)
    have := left_set (ready_open hi)
    exact wpAny_inv I step done fuel _ a' w' (by omega) h'

end Go.Proofs.Ytjopfpchbakggaa
