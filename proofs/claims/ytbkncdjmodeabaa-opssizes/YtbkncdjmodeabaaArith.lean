/- What the program's and the document's sums, differences, products and quotients give: the same functions of the parts' words. -/
import Derived.Test.YtbkncdjmodeabaaNum
set_option linter.unusedSimpArgs false
namespace Go.Proofs.Ytbkncdjmodeabaa

/-- The product of two finite words. -/
def mulV (x y : Nat) : Nat := (D.mul x y).getD 0
theorem mulV_eq {x y r : Nat} (h : D.mul x y = some r) : mulV x y = r := by unfold mulV; rw [h]; rfl

theorem product_any (x y : Nat) (w : World) (hx : fin x = true) (hy : fin y = true) :
    Calls Try.prog 71 #[.float .f64 x, .float .f64 y] w fun e w' => e = .returned (.float .f64 (mulV x y)) ∧ w' = w := by
  obtain ⟨r, h⟩ := mul_some hx hy
  have hop := fun t w => run_float_arith (P := Try.prog) w .mul t .f64 x y r h
  have e := mulV_eq h
  clear h
  go_enter Try.func71, Try.ntmps71
  go_wp2_with (simp only [hop])
  go_ret
  exact ⟨ret_float (by first | rfl | exact e.symm), rfl⟩

set_option maxHeartbeats 400000 in
theorem add_any (a b c d : Nat) (w : World) (ha : Wd a) (hb : Wd b) (hc : Wd c) (hd : Wd d) :
    Calls Try.prog 46 #[.complex .f64 a b, .complex .f64 c d] w fun e w' => e = .returned (.tuple #[.complex .f64 (o1 (D.add (cl1 a b) (cl1 c d)) (D.add (cl2 a b) (cl2 c d))) (o2 (D.add (cl1 a b) (cl1 c d)) (D.add (cl2 a b) (cl2 c d))), .int .i64 (oE (D.add (cl1 a b) (cl1 c d)) (D.add (cl2 a b) (cl2 c d)))]) ∧ w' = w := by
  obtain ⟨r, hr⟩ := add_some (cl_fin1 a b) (cl_fin1 c d)
  obtain ⟨s, hs⟩ := add_some (cl_fin2 a b) (cl_fin2 c d)
  have wr : Wd r := wd_of_bits (op := .add) hr
  have ws : Wd s := wd_of_bits (op := .add) hs
  have h1 := fun t w => run_float_arith (P := Try.prog) w .add t .f64 _ _ r hr
  have h2 := fun t w => run_float_arith (P := Try.prog) w .add t .f64 _ _ s hs
  have k1 := hide hr
  have k2 := hide hs
  clear hr hs
  go_enter Try.func46, Try.ntmps46
  go_wp2_with (first | (go_at_call 69; refine (sound_any _ _ _ ?_ ?_).mono ?_; assumption; assumption; rintro e w' ⟨rfl, rfl⟩) | (go_at_call 70; refine (clean_any _ _ _ ?_ ?_).mono ?_; assumption; assumption; rintro e w' ⟨rfl, rfl⟩) | simp only [h1, h2])
  go_ret2
  refine ⟨?_, rfl⟩
  rw [unhide k1, unhide k2]
  rfl

set_option maxHeartbeats 400000 in
theorem sub_any (a b c d : Nat) (w : World) (ha : Wd a) (hb : Wd b) (hc : Wd c) (hd : Wd d) :
    Calls Try.prog 47 #[.complex .f64 a b, .complex .f64 c d] w fun e w' => e = .returned (.tuple #[.complex .f64 (o1 (D.sub (cl1 a b) (cl1 c d)) (D.sub (cl2 a b) (cl2 c d))) (o2 (D.sub (cl1 a b) (cl1 c d)) (D.sub (cl2 a b) (cl2 c d))), .int .i64 (oE (D.sub (cl1 a b) (cl1 c d)) (D.sub (cl2 a b) (cl2 c d)))]) ∧ w' = w := by
  obtain ⟨r, hr⟩ := sub_some (cl_fin1 a b) (cl_fin1 c d)
  obtain ⟨s, hs⟩ := sub_some (cl_fin2 a b) (cl_fin2 c d)
  have wr : Wd r := wd_of_bits (op := .sub) hr
  have ws : Wd s := wd_of_bits (op := .sub) hs
  have h1 := fun t w => run_float_arith (P := Try.prog) w .sub t .f64 _ _ r hr
  have h2 := fun t w => run_float_arith (P := Try.prog) w .sub t .f64 _ _ s hs
  have k1 := hide hr
  have k2 := hide hs
  clear hr hs
  go_enter Try.func47, Try.ntmps47
  go_wp2_with (first | (go_at_call 69; refine (sound_any _ _ _ ?_ ?_).mono ?_; assumption; assumption; rintro e w' ⟨rfl, rfl⟩) | (go_at_call 70; refine (clean_any _ _ _ ?_ ?_).mono ?_; assumption; assumption; rintro e w' ⟨rfl, rfl⟩) | simp only [h1, h2])
  go_ret2
  refine ⟨?_, rfl⟩
  rw [unhide k1, unhide k2]
  rfl

set_option maxHeartbeats 400000 in
theorem mul_any (a b c d : Nat) (w : World) (ha : Wd a) (hb : Wd b) (hc : Wd c) (hd : Wd d) :
    Calls Try.prog 48 #[.complex .f64 a b, .complex .f64 c d] w fun e w' => e = .returned (.tuple #[.complex .f64 (o1 (mulP (cl1 a b) (cl2 a b) (cl1 c d) (cl2 c d)) (mulQ (cl1 a b) (cl2 a b) (cl1 c d) (cl2 c d))) (o2 (mulP (cl1 a b) (cl2 a b) (cl1 c d) (cl2 c d)) (mulQ (cl1 a b) (cl2 a b) (cl1 c d) (cl2 c d))), .int .i64 (oE (mulP (cl1 a b) (cl2 a b) (cl1 c d) (cl2 c d)) (mulQ (cl1 a b) (cl2 a b) (cl1 c d) (cl2 c d)))]) ∧ ∃ n, w' = w.drewN n := by
  obtain ⟨p, hp⟩ := mul_some (cl_fin1 a b) (cl_fin1 c d)
  obtain ⟨q, hq⟩ := mul_some (cl_fin2 a b) (cl_fin2 c d)
  obtain ⟨r, hr⟩ := mul_some (cl_fin1 a b) (cl_fin2 c d)
  obtain ⟨s, hs⟩ := mul_some (cl_fin2 a b) (cl_fin1 c d)
  have eP : mulP (cl1 a b) (cl2 a b) (cl1 c d) (cl2 c d) = D.sub p q := by unfold mulP; rw [hp, hq]; rfl
  have eQ : mulQ (cl1 a b) (cl2 a b) (cl1 c d) (cl2 c d) = D.add r s := by unfold mulQ; rw [hr, hs]; rfl
  have i1 := fun w => arV_is .sub p q w
  have i2 := fun w => arV_is .add r s w
  have m1 := fun t w => run_float_arith (P := Try.prog) w .mul t .f64 _ _ p hp
  have m2 := fun t w => run_float_arith (P := Try.prog) w .mul t .f64 _ _ q hq
  have m3 := fun t w => run_float_arith (P := Try.prog) w .mul t .f64 _ _ r hr
  have m4 := fun t w => run_float_arith (P := Try.prog) w .mul t .f64 _ _ s hs
  have h1 := fun t w => run_ar Try.prog .sub (by simp) t p q w
  have h2 := fun t w => run_ar Try.prog .add (by simp) t r s w
  have v1 := mulV_eq hp
  have v2 := mulV_eq hq
  have v3 := mulV_eq hr
  have v4 := mulV_eq hs
  have I1 := hide i1
  have I2 := hide i2
  have E1 := hide eP
  have E2 := hide eQ
  clear i1 i2 eP eQ
  go_enter Try.func48, Try.ntmps48
  go_wp2_with (first | (go_at_call 69; refine (sound_any _ _ _ ?_ ?_).mono ?_; assumption; assumption; rintro e w' ⟨rfl, rfl⟩) | (go_at_call 70; refine (clean_any _ _ _ (arV_wd _ _ _ _) (arV_wd _ _ _ _)).mono ?_; rintro e w' ⟨rfl, rfl⟩) | (go_at_call 71; refine (product_any _ _ _ ?_ ?_).mono ?_; (first | exact cl_fin1 _ _ | exact cl_fin2 _ _); (first | exact cl_fin1 _ _ | exact cl_fin2 _ _); rintro e w' ⟨rfl, rfl⟩) | simp only [m1, m2, m3, m4, h1, h2])
  go_ret2
  refine ⟨?_, _, rfl⟩
  rw [unhide E1, unhide E2]
  exact ret_cx (cl_o (unhide I1 _) (unhide I2 _)).1 (cl_o (unhide I1 _) (unhide I2 _)).2.1 (cl_o (unhide I1 _) (unhide I2 _)).2.2

end Go.Proofs.Ytbkncdjmodeabaa
