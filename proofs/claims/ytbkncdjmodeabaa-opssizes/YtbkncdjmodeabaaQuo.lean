/- What the program's and the document's quotients give: the same functions of the parts' words. -/
import Derived.Test.YtbkncdjmodeabaaArith
set_option linter.unusedSimpArgs false
set_option linter.unusedVariables false
namespace Go.Proofs.Ytbkncdjmodeabaa

set_option maxHeartbeats 400000 in
theorem div_zero (a b c d : Nat) (w : World) (ha : Wd a) (hb : Wd b) (hc : Wd c) (hd : Wd d) (hA : (D.order (cl1 c d) 0 == some .eq) = true) (hB : (D.order (cl2 c d) 0 == some .eq) = true) :
    Calls Try.prog 49 #[.complex .f64 a b, .complex .f64 c d] w fun e w' => e = .returned (.tuple #[.complex .f64 0 0, .int .i64 2]) ∧ w' = w := by
  go_enter Try.func49, Try.ntmps49
  go_wp2_with (first | (go_at_call 69; refine (sound_any _ _ _ ?_ ?_).mono ?_; assumption; assumption; rintro e w' ⟨rfl, rfl⟩))
  go_ret2
  exact ⟨rfl, rfl⟩

set_option maxHeartbeats 400000 in
theorem div_bad (a b c d n : Nat) (w : World) (ha : Wd a) (hb : Wd b) (hc : Wd c) (hd : Wd d) (hz : ((D.order (cl1 c d) 0 == some .eq) && (D.order (cl2 c d) 0 == some .eq)) = false) (hn : sqN (cl1 c d) (cl2 c d) = some n) (hb' : badN n = true) :
    Calls Try.prog 49 #[.complex .f64 a b, .complex .f64 c d] w fun e w' => e = .returned (.tuple #[.complex .f64 0 0, .int .i64 5]) ∧ w' = w := by
  obtain ⟨x, hx⟩ := mul_some (cl_fin1 c d) (cl_fin1 c d)
  obtain ⟨y, hy⟩ := mul_some (cl_fin2 c d) (cl_fin2 c d)
  have hs : D.add x y = some n := by unfold sqN at hn; rw [hx, hy] at hn; exact hn
  have m1 := fun t w => run_float_arith (P := Try.prog) w .mul t .f64 _ _ x hx
  have m2 := fun t w => run_float_arith (P := Try.prog) w .mul t .f64 _ _ y hy
  have m3 := fun t w => run_float_arith (P := Try.prog) w .add t .f64 _ _ n hs
  have v1 := mulV_eq hx
  have v2 := mulV_eq hy
  have wn : Wd n := wd_of_bits (op := .add) hs
  clear hn hx hy hs
  unfold badN nought at hb'
  cases h0 : (D.order n 0 == some .eq)
  · rw [h0] at hb'
    have hf : fin n = false := by simpa using hb'
    clear hb'
    go_enter Try.func49, Try.ntmps49
    go_wp2_with (first | (go_at_call 69; refine (sound_any _ _ _ ?_ ?_).mono ?_; assumption; assumption; rintro e w' ⟨rfl, rfl⟩) | (go_at_call 70; refine (clean_any _ _ _ (arV_wd _ _ _ _) (arV_wd _ _ _ _)).mono ?_; rintro e w' ⟨rfl, rfl⟩) | (go_at_call 71; refine (product_any _ _ _ ?_ ?_).mono ?_; (first | exact cl_fin1 _ _ | exact cl_fin2 _ _); (first | exact cl_fin1 _ _ | exact cl_fin2 _ _); rintro e w' ⟨rfl, rfl⟩) | (go_at_call 72; refine (finite_any _ _ ?_).mono ?_; assumption; rintro e w' ⟨rfl, rfl⟩) | simp only [m1, m2, m3])
    go_ret2
    exact ⟨rfl, rfl⟩
  · clear hb'
    go_enter Try.func49, Try.ntmps49
    go_wp2_with (first | (go_at_call 69; refine (sound_any _ _ _ ?_ ?_).mono ?_; assumption; assumption; rintro e w' ⟨rfl, rfl⟩) | (go_at_call 70; refine (clean_any _ _ _ (arV_wd _ _ _ _) (arV_wd _ _ _ _)).mono ?_; rintro e w' ⟨rfl, rfl⟩) | (go_at_call 71; refine (product_any _ _ _ ?_ ?_).mono ?_; (first | exact cl_fin1 _ _ | exact cl_fin2 _ _); (first | exact cl_fin1 _ _ | exact cl_fin2 _ _); rintro e w' ⟨rfl, rfl⟩) | (go_at_call 72; refine (finite_any _ _ ?_).mono ?_; assumption; rintro e w' ⟨rfl, rfl⟩) | simp only [m1, m2, m3])
    go_ret2
    exact ⟨rfl, rfl⟩

set_option maxHeartbeats 1000000 in
theorem div_good (a b c d n : Nat) (w : World) (ha : Wd a) (hb : Wd b) (hc : Wd c) (hd : Wd d) (hz : ((D.order (cl1 c d) 0 == some .eq) && (D.order (cl2 c d) 0 == some .eq)) = false) (hn : sqN (cl1 c d) (cl2 c d) = some n) (hb' : badN n = false) :
    Calls Try.prog 49 #[.complex .f64 a b, .complex .f64 c d] w fun e w' => e = .returned (.tuple #[.complex .f64 (o1 (divP (cl1 a b) (cl2 a b) (cl1 c d) (cl2 c d) n) (divQ (cl1 a b) (cl2 a b) (cl1 c d) (cl2 c d) n)) (o2 (divP (cl1 a b) (cl2 a b) (cl1 c d) (cl2 c d) n) (divQ (cl1 a b) (cl2 a b) (cl1 c d) (cl2 c d) n)), .int .i64 (oE (divP (cl1 a b) (cl2 a b) (cl1 c d) (cl2 c d) n) (divQ (cl1 a b) (cl2 a b) (cl1 c d) (cl2 c d) n))]) ∧ ∃ k, w' = w.drewN k := by
  obtain ⟨x, hx⟩ := mul_some (cl_fin1 c d) (cl_fin1 c d)
  obtain ⟨y, hy⟩ := mul_some (cl_fin2 c d) (cl_fin2 c d)
  have hs : D.add x y = some n := by unfold sqN at hn; rw [hx, hy] at hn; exact hn
  obtain ⟨p, hp⟩ := mul_some (cl_fin1 a b) (cl_fin1 c d)
  obtain ⟨q, hq⟩ := mul_some (cl_fin2 a b) (cl_fin2 c d)
  obtain ⟨r, hr⟩ := mul_some (cl_fin2 a b) (cl_fin1 c d)
  obtain ⟨s, hs'⟩ := mul_some (cl_fin1 a b) (cl_fin2 c d)
  have eP : divP (cl1 a b) (cl2 a b) (cl1 c d) (cl2 c d) n = (D.add p q).bind fun x => D.div x n := by unfold divP; rw [hp, hq]; rfl
  have eQ : divQ (cl1 a b) (cl2 a b) (cl1 c d) (cl2 c d) n = (D.sub r s).bind fun x => D.div x n := by unfold divQ; rw [hr, hs']; rfl
  have i1 := fun w w' => is_quo (n := n) (arV_is .add p q w) w'
  have i2 := fun w w' => is_quo (n := n) (arV_is .sub r s w) w'
  have m1 := fun t w => run_float_arith (P := Try.prog) w .mul t .f64 _ _ x hx
  have m2 := fun t w => run_float_arith (P := Try.prog) w .mul t .f64 _ _ y hy
  have m3 := fun t w => run_float_arith (P := Try.prog) w .add t .f64 _ _ n hs
  have m4 := fun t w => run_float_arith (P := Try.prog) w .mul t .f64 _ _ p hp
  have m5 := fun t w => run_float_arith (P := Try.prog) w .mul t .f64 _ _ q hq
  have m6 := fun t w => run_float_arith (P := Try.prog) w .mul t .f64 _ _ r hr
  have m7 := fun t w => run_float_arith (P := Try.prog) w .mul t .f64 _ _ s hs'
  have h1 := fun t w => run_ar Try.prog .add (by simp) t p q w
  have h2 := fun t w => run_ar Try.prog .sub (by simp) t r s w
  have h3 := fun t u w => run_ar Try.prog .quo (by simp) t u n w
  have v1 := mulV_eq hx
  have v2 := mulV_eq hy
  have v3 := mulV_eq hp
  have v4 := mulV_eq hq
  have v5 := mulV_eq hr
  have v6 := mulV_eq hs'
  have wn : Wd n := wd_of_bits (op := .add) hs
  have I1 := hide i1
  have I2 := hide i2
  have E1 := hide eP
  have E2 := hide eQ
  clear hn hx hy hs hp hq hr hs' i1 i2 eP eQ
  unfold badN nought at hb'
  rw [Bool.or_eq_false_iff] at hb'
  obtain ⟨h0, hf'⟩ := hb'
  have hf : fin n = true := by simpa using hf'
  clear hf'
  go_enter Try.func49, Try.ntmps49
  go_wp2_with (first | (go_at_call 69; refine (sound_any _ _ _ ?_ ?_).mono ?_; assumption; assumption; rintro e w' ⟨rfl, rfl⟩) | (go_at_call 70; refine (clean_any _ _ _ (arV_wd _ _ _ _) (arV_wd _ _ _ _)).mono ?_; rintro e w' ⟨rfl, rfl⟩) | (go_at_call 71; refine (product_any _ _ _ ?_ ?_).mono ?_; (first | exact cl_fin1 _ _ | exact cl_fin2 _ _); (first | exact cl_fin1 _ _ | exact cl_fin2 _ _); rintro e w' ⟨rfl, rfl⟩) | (go_at_call 72; refine (finite_any _ _ ?_).mono ?_; assumption; rintro e w' ⟨rfl, rfl⟩) | simp only [m1, m2, m3, m4, m5, m6, m7, h1, h2, h3])
  go_ret2
  refine ⟨?_, _, rfl⟩
  rw [unhide E1, unhide E2]
  exact ret_cx (cl_o (unhide I1 _ _) (unhide I2 _ _)).1 (cl_o (unhide I1 _ _) (unhide I2 _ _)).2.1 (cl_o (unhide I1 _ _) (unhide I2 _ _)).2.2

theorem div_any (a b c d : Nat) (w : World) (ha : Wd a) (hb : Wd b) (hc : Wd c) (hd : Wd d) :
    Calls Try.prog 49 #[.complex .f64 a b, .complex .f64 c d] w fun e w' => e = .returned (.tuple #[.complex .f64 (q1 (cl1 a b) (cl2 a b) (cl1 c d) (cl2 c d)) (q2 (cl1 a b) (cl2 a b) (cl1 c d) (cl2 c d)), .int .i64 (qE (cl1 a b) (cl2 a b) (cl1 c d) (cl2 c d))]) ∧ ∃ k, w' = w.drewN k := by
  obtain ⟨x, hx⟩ := mul_some (cl_fin1 c d) (cl_fin1 c d)
  obtain ⟨y, hy⟩ := mul_some (cl_fin2 c d) (cl_fin2 c d)
  obtain ⟨n, hn⟩ := sq_sum (sq_le (cl_fin1 c d) hx) (sq_le (cl_fin2 c d) hy)
  have hN : sqN (cl1 c d) (cl2 c d) = some n := by unfold sqN; rw [hx, hy]; exact hn
  cases hz : (nought (cl1 c d) && nought (cl2 c d)) with
  | true =>
    have hz' := hz
    rw [Bool.and_eq_true] at hz
    refine (div_zero a b c d w ha hb hc hd hz.1 hz.2).mono ?_
    rintro e w' ⟨rfl, rfl⟩
    exact ⟨ret_cx (by unfold q1; rw [if_pos hz']) (by unfold q2; rw [if_pos hz']) (by unfold qE; rw [if_pos hz']), 0, rfl⟩
  | false =>
    have hz' : ¬ (nought (cl1 c d) && nought (cl2 c d)) = true := by rw [hz]; decide
    cases hb' : badN n with
    | true =>
      refine (div_bad a b c d n w ha hb hc hd hz hN hb').mono ?_
      rintro e w' ⟨rfl, rfl⟩
      exact ⟨ret_cx (by unfold q1; rw [if_neg hz', hN]; simp only [hb', if_true]) (by unfold q2; rw [if_neg hz', hN]; simp only [hb', if_true]) (by unfold qE; rw [if_neg hz', hN]; simp only [hb', if_true]), 0, rfl⟩
    | false =>
      refine (div_good a b c d n w ha hb hc hd hz hN hb').mono ?_
      rintro e w' ⟨rfl, k, rfl⟩
      exact ⟨ret_cx (by unfold q1; rw [if_neg hz', hN]; simp only [hb', Bool.false_eq_true, if_false]) (by unfold q2; rw [if_neg hz', hN]; simp only [hb', Bool.false_eq_true, if_false]) (by unfold qE; rw [if_neg hz', hN]; simp only [hb', Bool.false_eq_true, if_false]), k, rfl⟩

end Go.Proofs.Ytbkncdjmodeabaa
