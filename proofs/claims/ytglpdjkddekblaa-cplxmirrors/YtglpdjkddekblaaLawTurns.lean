/- What the statement of negatives and mirrors does, out of the contracts. -/
import Derived.Test.YtglpdjkddekblaaLaw
set_option linter.unusedSimpArgs false
namespace Go.Proofs.Ytglpdjkddekblaa

theorem fin_ng {x : Nat} (h : Wd x) : fin (ng x) = fin x := by
  rw [fin_eq, fin_eq, ng_eq h, decide_eq_decide]
  unfold Wd at h
  split <;> omega

theorem nought_ng {x : Nat} (h : Wd x) : nought (ng x) = nought x := by
  rw [nought_eq, nought_eq, ng_eq h, decide_eq_decide]
  unfold Wd at h
  split <;> omega

theorem ng_ng {x : Nat} (h : Wd x) : ng (ng x) = x := by
  rw [ng_eq (ng_wd h), ng_eq h]
  unfold Wd at h
  split <;> split <;> omega

theorem part_of_not {x : Nat} (h : nought x = false) : part x = x := by unfold part; rw [h]; rfl
theorem part_of_nought {x : Nat} (h : nought x = true) : part x = 0 := by unfold part; rw [h]; rfl

theorem cl_part1 (a b : Nat) : part (cl1 a b) = cl1 a b := by
  unfold cl1; split
  · exact part_part _
  · rfl
theorem cl_part2 (a b : Nat) : part (cl2 a b) = cl2 a b := by
  unfold cl2; split
  · exact part_part _
  · rfl

theorem cl_of1 {u v : Nat} (hu : fin u = true) (hv : fin v = true) : cl1 u v = part u := by unfold cl1 fin2; rw [hu, hv]; rfl
theorem cl_of2 {u v : Nat} (hu : fin u = true) (hv : fin v = true) : cl2 u v = part v := by unfold cl2 fin2; rw [hu, hv]; rfl

/-- Turned twice, a sound part is what it was. -/
theorem turn_turn {u : Nat} (hw : Wd u) (hp : part u = u) : part (ng (part (ng u))) = u := by
  cases hn : nought u with
  | true =>
    have hu : u = 0 := by rw [← hp]; exact part_of_nought hn
    subst hu
    exact (rfl : part (ng (part (ng 0))) = 0)
  | false =>
    have h1 : nought (ng u) = false := by rw [nought_ng hw]; exact hn
    rw [part_of_not h1, ng_ng hw]
    exact hp

theorem wd_zero : Wd 0 := by unfold Wd; omega

/-- The negative's negative, and the mirror's mirror. -/
theorem neg_neg1 {u v : Nat} (hu : Wd u) (hv : Wd v) (fu : fin u = true) (fv : fin v = true) (pu : part u = u) :
    cl1 (ng (cl1 (cl1 (ng u) (ng v)) (cl2 (ng u) (ng v)))) (ng (cl2 (cl1 (ng u) (ng v)) (cl2 (ng u) (ng v)))) = u := by
  have f1 : fin (ng u) = true := by rw [fin_ng hu]; exact fu
  have f2 : fin (ng v) = true := by rw [fin_ng hv]; exact fv
  rw [cl_of1 f1 f2, cl_of2 f1 f2, cl_of1 (fin_part f1) (fin_part f2), cl_of2 (fin_part f1) (fin_part f2), part_part, part_part]
  rw [cl_of1 (by rw [fin_ng (part_wd (ng_wd hu))]; exact fin_part f1) (by rw [fin_ng (part_wd (ng_wd hv))]; exact fin_part f2)]
  exact turn_turn hu pu

theorem neg_neg2 {u v : Nat} (hu : Wd u) (hv : Wd v) (fu : fin u = true) (fv : fin v = true) (pv : part v = v) :
    cl2 (ng (cl1 (cl1 (ng u) (ng v)) (cl2 (ng u) (ng v)))) (ng (cl2 (cl1 (ng u) (ng v)) (cl2 (ng u) (ng v)))) = v := by
  have f1 : fin (ng u) = true := by rw [fin_ng hu]; exact fu
  have f2 : fin (ng v) = true := by rw [fin_ng hv]; exact fv
  rw [cl_of1 f1 f2, cl_of2 f1 f2, cl_of1 (fin_part f1) (fin_part f2), cl_of2 (fin_part f1) (fin_part f2), part_part, part_part]
  rw [cl_of2 (by rw [fin_ng (part_wd (ng_wd hu))]; exact fin_part f1) (by rw [fin_ng (part_wd (ng_wd hv))]; exact fin_part f2)]
  exact turn_turn hv pv

theorem conj_conj1 {u v : Nat} (hv : Wd v) (fu : fin u = true) (fv : fin v = true) (pu : part u = u) :
    cl1 (cl1 (cl1 u (ng v)) (cl2 u (ng v))) (ng (cl2 (cl1 u (ng v)) (cl2 u (ng v)))) = u := by
  have f2 : fin (ng v) = true := by rw [fin_ng hv]; exact fv
  rw [cl_of1 fu f2, cl_of2 fu f2, cl_of1 (fin_part fu) (fin_part f2), cl_of2 (fin_part fu) (fin_part f2), part_part, part_part]
  rw [cl_of1 (fin_part fu) (by rw [fin_ng (part_wd (ng_wd hv))]; exact fin_part f2), part_part, pu]

theorem conj_conj2 {u v : Nat} (hv : Wd v) (fu : fin u = true) (fv : fin v = true) (pv : part v = v) :
    cl2 (cl1 (cl1 u (ng v)) (cl2 u (ng v))) (ng (cl2 (cl1 u (ng v)) (cl2 u (ng v)))) = v := by
  have f2 : fin (ng v) = true := by rw [fin_ng hv]; exact fv
  rw [cl_of1 fu f2, cl_of2 fu f2, cl_of1 (fin_part fu) (fin_part f2), cl_of2 (fin_part fu) (fin_part f2), part_part, part_part]
  rw [cl_of2 (fin_part fu) (by rw [fin_ng (part_wd (ng_wd hv))]; exact fin_part f2)]
  exact turn_turn hv pv

set_option maxHeartbeats 400000 in
theorem turns_walk (a b c d : Int) (ha : Wd a.toNat) (hb : Wd b.toNat) (hc : Wd c.toNat) (hd : Wd d.toNat) (w : World) :
    Calls Try.prog 8 #[.int .u64 a, .int .u64 b, .int .u64 c, .int .u64 d] w fun e w' => e = .returned (.bool true) ∧ ∃ n, w' = w.drewN n := by
  have hs := bitsB_self
  have wu := cl_wd1 (b := b.toNat) ha
  have wv := cl_wd2 (a := a.toNat) hb
  have n1 := neg_neg1 wu wv (cl_fin1 _ _) (cl_fin2 _ _) (cl_part1 _ _)
  have n2 := neg_neg2 wu wv (cl_fin1 _ _) (cl_fin2 _ _) (cl_part2 _ _)
  have c1 := conj_conj1 wv (cl_fin1 a.toNat b.toNat) (cl_fin2 _ _) (cl_part1 _ _)
  have c2 := conj_conj2 wv (cl_fin1 a.toNat b.toNat) (cl_fin2 _ _) (cl_part2 _ _)
  have k1 := ok_of_clean (ng (cl1 a.toNat b.toNat)) (ng (cl2 a.toNat b.toNat))
  have k2 := ok_of_clean (cl1 a.toNat b.toNat) (ng (cl2 a.toNat b.toNat))
  have w1 := cl_wd1 (b := ng (cl2 a.toNat b.toNat)) (ng_wd wu)
  have w2 := cl_wd2 (a := ng (cl1 a.toNat b.toNat)) (ng_wd wv)
  have w3 := cl_wd1 (b := ng (cl2 a.toNat b.toNat)) wu
  have w4 := cl_wd2 (a := cl1 a.toNat b.toNat) (ng_wd wv)
  go_enter Try.func8, Try.ntmps8
  go_wp2_with (first | (go_at_call 10; refine (lof_any _ _ _).mono ?_; rintro e w' ⟨rfl, rfl⟩) | (go_at_call 9; refine (rclean_any _ _ _).mono ?_; rintro e w' ⟨rfl, rfl⟩) | (go_at_call 26; refine (neg_any _ _ _ ?_ ?_).mono ?_; assumption; assumption; rintro e w' ⟨rfl, rfl⟩) | (go_at_call 16; refine (conj_any _ _ _ ?_ ?_).mono ?_; assumption; assumption; rintro e w' ⟨rfl, rfl⟩) | (go_at_call 27; refine (rneg_any _ _ _).mono ?_; rintro e w' ⟨rfl, rfl⟩) | (go_at_call 28; refine (rconj_any _ _ _).mono ?_; rintro e w' ⟨rfl, rfl⟩) | (go_at_call 18; refine (ok_any _ _ _ ?_ ?_).mono ?_; assumption; assumption; rintro e w' ⟨rfl, rfl⟩) | (go_at_call 29; refine (same_any _ _ _ _ _ ?_ ?_ ?_ ?_).mono ?_; assumption; assumption; assumption; assumption; rintro e w' ⟨rfl, rfl⟩) | (go_at_call 13; refine (lbits_any _ _ _ _ _).mono ?_; rintro e w' ⟨rfl, rfl⟩) | (go_at_call 15; refine (awake_any _).mono ?_; rintro e w' ⟨rfl, n, rfl⟩))
  go_ret
  exact ⟨rfl, _, rfl⟩

end Go.Proofs.Ytglpdjkddekblaa
