/- What the statement of negatives and mirrors does, out of the contracts. -/
import Derived.Test.YtglpdjkddekblabLaw
set_option linter.unusedSimpArgs false
namespace Go.Proofs.Ytglpdjkddekblab

theorem fin_ng {x : Nat} (h : Wd x) : fin (ng x) = fin x := by
  rw [fin_eq, fin_eq, ng_eq h, decide_eq_decide]
  unfold Wd at h
  split <;> omega

theorem nought_ng {x : Nat} (h : Wd x) : nought (ng x) = nought x := by
  rw [nought_eq, nought_eq, ng_eq h, decide_eq_decide]
  unfold Wd at h
  split <;> omega

theorem ng_ng {x : Nat} (h : Wd x) : ng (ng x) = x := by
  rw [ng_eq (ng_wd h), ng_eq h]
  unfold Wd at h
  split <;> split <;> omega

theorem part_of_not {x : Nat} (h : nought x = false) : part x = x := by unfold part; rw [h]; rfl
theorem part_of_nought {x : Nat} (h : nought x = true) : part x = 0 := by unfold part; rw [h]; rfl

theorem cl_part1 (a b : Nat) : part (cl1 a b) = cl1 a b := by
  unfold cl1; split
  · exact part_part _
  · rfl
theorem cl_part2 (a b : Nat) : part (cl2 a b) = cl2 a b := by
  unfold cl2; split
  · exact part_part _
  · rfl

theorem cl_of1 {u v : Nat} (hu : fin u = true) (hv : fin v = true) : cl1 u v = part u := by unfold cl1 fin2; rw [hu, hv]; rfl
theorem cl_of2 {u v : Nat} (hu : fin u = true) (hv : fin v = true) : cl2 u v = part v := by unfold cl2 fin2; rw [hu, hv]; rfl

/-- Turned twice, a sound part is what it was. -/
theorem turn_turn {u : Nat} (hw : Wd u) (hp : part u = u) : part (ng (part (ng u))) = u := by
  cases hn : nought u with
  | true =>
    have hu : u = 0 := by rw [← hp]; exact part_of_nought hn
    subst hu
    exact (rfl : part (ng (part (ng 0))) = 0)
  | false =>
    have h1 : nought (ng u) = false := by rw [nought_ng hw]; exact hn
    rw [part_of_not h1, ng_ng hw]
    exact hp

theorem wd_zero : Wd 0 := by unfold Wd; omega

/-- The negative's negative, and the mirror's mirror. -/
theorem neg_neg1 {u v : Nat} (hu : Wd u) (hv : Wd v) (fu : fin u = true) (fv : fin v = true) (pu : part u = u) :
    cl1 (ng (cl1 (cl1 (ng u) (ng v)) (cl2 (ng u) (ng v)))) (ng (cl2 (cl1 (ng u) (ng v)) (cl2 (ng u) (ng v)))) = u := by
  have f1 : fin (ng u) = true := by rw [fin_ng hu]; exact fu
  have f2 : fin (ng v) = true := by rw [fin_ng hv]; exact fv
  rw [cl_of1 f1 f2, cl_of2 f1 f2, cl_of1 (fin_part f1) (fin_part f2), cl_of2 (fin_part f1) (fin_part f2), part_part, part_part]
  rw [cl_of1 (by rw [fin_ng (part_wd (ng_wd hu))]; exact fin_part f1) (by rw [fin_ng (part_wd (ng_wd hv))]; exact fin_part f2)]
  exact turn_turn hu pu

theorem neg_neg2 {u v : Nat} (hu : Wd u) (hv : Wd v) (fu : fin u = true) (fv : fin v = true) (pv : part v = v) :
    cl2 (ng (cl1 (cl1 (ng u) (ng v)) (cl2 (ng u) (ng v)))) (ng (cl2 (cl1 (ng u) (ng v)) (cl2 (ng u) (ng v)))) = v := by
  have f1 : fin (ng u) = true := by rw [fin_ng hu]; exact fu
  have f2 : fin (ng v) = true := by rw [fin_ng hv]; exact fv
  rw [cl_of1 f1 f2, cl_of2 f1 f2, cl_of1 (fin_part f1) (fin_part f2), cl_of2 (fin_part f1) (fin_part f2), part_part, part_part]
  rw [cl_of2 (by rw [fin_ng (part_wd (ng_wd hu))]; exact fin_part f1) (by rw [fin_ng (part_wd (ng_wd hv))]; exact fin_part f2)]
  exact turn_turn hv pv

theorem conj_conj1 {u v : Nat} (hv : Wd v) (fu : fin u = true) (fv : fin v = true) (pu : part u = u) :
    cl1 (cl1 (cl1 u (ng v)) (cl2 u (ng v))) (ng (cl2 (cl1 u (ng v)) (cl2 u (ng v)))) = u := by
  have f2 : fin (ng v) = true := by rw [fin_ng hv]; exact fv
  rw [cl_of1 fu f2, cl_of2 fu f2, cl_of1 (fin_part fu) (fin_part f2), cl_of2 (fin_part fu) (fin_part f2), part_part, part_part]
  rw [cl_of1 (fin_part fu) (by rw [fin_ng (part_wd (ng_wd hv))]; exact fin_part f2), part_part, pu]

theorem conj_conj2 {u v : Nat} (hv : Wd v) (fu : fin u = true) (fv : fin v = true) (pv : part v = v) :
    cl2 (cl1 (cl1 u (ng v)) (cl2 u (ng v))) (ng (cl2 (cl1 u (ng v)) (cl2 u (ng v)))) = v := by
  have f2 : fin (ng v) = true := by rw [fin_ng hv]; exact fv
  rw [cl_of1 fu f2, cl_of2 fu f2, cl_of1 (fin_part fu) (fin_part f2), cl_of2 (fin_part fu) (fin_part f2), part_part, part_part]
  rw [cl_of2 (fin_part fu) (by rw [fin_ng (part_wd (ng_wd hv))]; exact fin_part f2)]
  exact turn_turn hv pv

end Go.Proofs.Ytglpdjkddekblab
