/- What the statement of small whole numbers does, out of the contracts. -/
import Derived.Test.YtglpdjkddekblabWhole
set_option linter.unusedSimpArgs false
namespace Go.Proofs.Ytglpdjkddekblab
open Go.RowKit (wrap64)

theorem mask20 (a : Int) : ∃ A : Int, wrap64 (bits .and .i64 a 1048575 - 524288) = A ∧ -524288 ≤ A ∧ A ≤ 524287 := by
  have h : ∃ n : Nat, bits .and .i64 a 1048575 = n ∧ n ≤ 1048575 := by
    refine ⟨(BitVec.ofInt 64 a &&& BitVec.ofInt 64 1048575).toNat, ?_, ?_⟩
    · have hl : (BitVec.ofInt 64 a &&& BitVec.ofInt 64 1048575).toNat ≤ 1048575 := by
        rw [BitVec.toNat_and]; exact Nat.and_le_right
      show IntKind.wrap .i64 ((BitVec.ofInt 64 a &&& BitVec.ofInt 64 1048575).toNat : Int) = _
      generalize (BitVec.ofInt 64 a &&& BitVec.ofInt 64 1048575).toNat = n at hl
      have e : IntKind.wrap .i64 (n : Int) = if (true && decide ((n : Int) % (18446744073709551616 : Int) ≥ (9223372036854775808 : Int))) = true then (n : Int) % 18446744073709551616 - 18446744073709551616 else (n : Int) % 18446744073709551616 := rfl
      rw [e]
      have : decide ((n : Int) % (18446744073709551616 : Int) ≥ (9223372036854775808 : Int)) = false := by
        rw [decide_eq_false_iff_not]; omega
      rw [this]
      simp only [Bool.and_false, Bool.false_eq_true, if_false]
      omega
    · rw [BitVec.toNat_and]; exact Nat.and_le_right
  obtain ⟨n, hn, hl⟩ := h
  refine ⟨(n : Int) - 524288, ?_, by omega, by omega⟩
  rw [hn]
  unfold Go.RowKit.wrap64
  omega

theorem prod_bd {x y : Int} (h1 : -524288 ≤ x) (h2 : x ≤ 524287) (h3 : -524288 ≤ y) (h4 : y ≤ 524287) : -274877906944 ≤ x * y ∧ x * y ≤ 274877906944 := by
  have hx : x.natAbs ≤ 524288 := by omega
  have hy : y.natAbs ≤ 524288 := by omega
  have h : (x * y).natAbs ≤ 524288 * 524288 := by rw [Int.natAbs_mul]; exact Nat.mul_le_mul hx hy
  omega

theorem sq_nonneg (x : Int) : 0 ≤ x * x := by
  rcases Int.le_total 0 x with h | h
  · exact Int.mul_nonneg h h
  · exact Int.mul_nonneg_of_nonpos_of_nonpos h h

theorem sq_zero {x : Int} (h : x * x = 0) : x = 0 := by
  rcases Int.mul_eq_zero.1 h with h | h <;> exact h

theorem ordF {n : Int} (h : n.natAbs < 9007199254740992) : (FloatKind.f64.format.order (floatOfInt .f64 n) (floatOfInt .f64 n) == some .eq) = true := by
  have := ord_self (F_snd h).fin
  unfold F at this
  rw [this]; rfl

/-- All that the walk asks of four small whole numbers. -/
structure Facts (A B C E : Int) : Prop where
  i1 : cl1 (floatOfInt .f64 A) (floatOfInt .f64 B) = floatOfInt .f64 A
  i2 : cl2 (floatOfInt .f64 A) (floatOfInt .f64 B) = floatOfInt .f64 B
  i3 : cl1 (floatOfInt .f64 C) (floatOfInt .f64 E) = floatOfInt .f64 C
  i4 : cl2 (floatOfInt .f64 C) (floatOfInt .f64 E) = floatOfInt .f64 E
  j1 : cl1 (floatOfInt .f64 A) (ng (floatOfInt .f64 B)) = floatOfInt .f64 A
  j2 : cl2 (floatOfInt .f64 A) (ng (floatOfInt .f64 B)) = floatOfInt .f64 (-B)
  j3 : cl1 (floatOfInt .f64 A) (floatOfInt .f64 (-B)) = floatOfInt .f64 A
  j4 : cl2 (floatOfInt .f64 A) (floatOfInt .f64 (-B)) = floatOfInt .f64 (-B)
  s1 : o1 (D.add (floatOfInt .f64 A) (floatOfInt .f64 C)) (D.add (floatOfInt .f64 B) (floatOfInt .f64 E)) = floatOfInt .f64 (A + C)
  s2 : o2 (D.add (floatOfInt .f64 A) (floatOfInt .f64 C)) (D.add (floatOfInt .f64 B) (floatOfInt .f64 E)) = floatOfInt .f64 (B + E)
  s3 : oE (D.add (floatOfInt .f64 A) (floatOfInt .f64 C)) (D.add (floatOfInt .f64 B) (floatOfInt .f64 E)) = 0
  p1 : o1 (mulP (floatOfInt .f64 A) (floatOfInt .f64 B) (floatOfInt .f64 C) (floatOfInt .f64 E)) (mulQ (floatOfInt .f64 A) (floatOfInt .f64 B) (floatOfInt .f64 C) (floatOfInt .f64 E)) = floatOfInt .f64 (A * C - B * E)
  p2 : o2 (mulP (floatOfInt .f64 A) (floatOfInt .f64 B) (floatOfInt .f64 C) (floatOfInt .f64 E)) (mulQ (floatOfInt .f64 A) (floatOfInt .f64 B) (floatOfInt .f64 C) (floatOfInt .f64 E)) = floatOfInt .f64 (A * E + B * C)
  p3 : oE (mulP (floatOfInt .f64 A) (floatOfInt .f64 B) (floatOfInt .f64 C) (floatOfInt .f64 E)) (mulQ (floatOfInt .f64 A) (floatOfInt .f64 B) (floatOfInt .f64 C) (floatOfInt .f64 E)) = 0
  t1 : o1 (mulP (floatOfInt .f64 A) (floatOfInt .f64 B) (floatOfInt .f64 A) (floatOfInt .f64 (-B))) (mulQ (floatOfInt .f64 A) (floatOfInt .f64 B) (floatOfInt .f64 A) (floatOfInt .f64 (-B))) = floatOfInt .f64 (A * A + B * B)
  t2 : o2 (mulP (floatOfInt .f64 A) (floatOfInt .f64 B) (floatOfInt .f64 A) (floatOfInt .f64 (-B))) (mulQ (floatOfInt .f64 A) (floatOfInt .f64 B) (floatOfInt .f64 A) (floatOfInt .f64 (-B))) = floatOfInt .f64 0
  t3 : oE (mulP (floatOfInt .f64 A) (floatOfInt .f64 B) (floatOfInt .f64 A) (floatOfInt .f64 (-B))) (mulQ (floatOfInt .f64 A) (floatOfInt .f64 B) (floatOfInt .f64 A) (floatOfInt .f64 (-B))) = 0
  k1 : cl1 (floatOfInt .f64 (A * C - B * E)) (floatOfInt .f64 (A * E + B * C)) = floatOfInt .f64 (A * C - B * E)
  k2 : cl2 (floatOfInt .f64 (A * C - B * E)) (floatOfInt .f64 (A * E + B * C)) = floatOfInt .f64 (A * E + B * C)
  c1 : (FloatKind.f64.format.order (floatOfInt .f64 (A + C)) (floatOfInt .f64 (A + C)) == some .eq) = true
  c2 : (FloatKind.f64.format.order (floatOfInt .f64 (B + E)) (floatOfInt .f64 (B + E)) == some .eq) = true
  c3 : (FloatKind.f64.format.order (floatOfInt .f64 (A * C - B * E)) (floatOfInt .f64 (A * C - B * E)) == some .eq) = true
  c4 : (FloatKind.f64.format.order (floatOfInt .f64 (A * E + B * C)) (floatOfInt .f64 (A * E + B * C)) == some .eq) = true
  c5 : (FloatKind.f64.format.order (floatOfInt .f64 (A * A + B * B)) (floatOfInt .f64 (A * A + B * B)) == some .eq) = true
  z : C = 0 → E = 0 → ∀ x y, qE x y (floatOfInt .f64 C) (floatOfInt .f64 E) = 2
  q : ¬ (C = 0 ∧ E = 0) → q1 (floatOfInt .f64 C) (floatOfInt .f64 E) (floatOfInt .f64 C) (floatOfInt .f64 E) = floatOfInt .f64 1 ∧ q2 (floatOfInt .f64 C) (floatOfInt .f64 E) (floatOfInt .f64 C) (floatOfInt .f64 E) = floatOfInt .f64 0 ∧ qE (floatOfInt .f64 C) (floatOfInt .f64 E) (floatOfInt .f64 C) (floatOfInt .f64 E) = 0

theorem facts {A B C E : Int} (hA : -524288 ≤ A) (hA' : A ≤ 524287) (hB : -524288 ≤ B) (hB' : B ≤ 524287) (hC : -524288 ≤ C) (hC' : C ≤ 524287) (hE : -524288 ≤ E) (hE' : E ≤ 524287) : Facts A B C E := by
  obtain ⟨b1, b2⟩ := prod_bd hA hA' hC hC'
  obtain ⟨b3, b4⟩ := prod_bd hB hB' hE hE'
  obtain ⟨b5, b6⟩ := prod_bd hA hA' hE hE'
  obtain ⟨b7, b8⟩ := prod_bd hB hB' hC hC'
  obtain ⟨b9, b10⟩ := prod_bd hA hA' hA hA'
  obtain ⟨b11, b12⟩ := prod_bd hB hB' hB hB'
  obtain ⟨b13, b14⟩ := prod_bd hC hC' hC hC'
  obtain ⟨b15, b16⟩ := prod_bd hE hE' hE hE'
  obtain ⟨b17, b18⟩ := prod_bd hC hC' hE hE'
  obtain ⟨b19, b20⟩ := prod_bd hA hA' hB hB'
  have nA : A.natAbs < 9007199254740992 := by omega
  have nB : B.natAbs < 9007199254740992 := by omega
  have nB' : (-B).natAbs < 9007199254740992 := by omega
  have nC : C.natAbs < 9007199254740992 := by omega
  have nE : E.natAbs < 9007199254740992 := by omega
  have fB : fin (ng (F B)) = true := by rw [fin_ng (F_snd nB).wd]; exact (F_snd nB).fin
  have S := isF_o (F_add nA nC) (F_add nB nE) (isF_self (by omega)) (isF_self (by omega))
  have P := F_mulPQ nA nB nC nE (by omega) (by omega) (by omega) (by omega) (by omega) (by omega)
  have e1 : B * -B = -(B * B) := Int.mul_neg B B
  have e2 : A * -B = -(A * B) := Int.mul_neg A B
  have e3 : B * A = A * B := Int.mul_comm B A
  have T := F_mulPQ nA nB nA nB' (by omega) (by rw [e1]; omega) (by rw [e2]; omega) (by rw [e3]; omega) (by rw [e1]; omega) (by rw [e2, e3]; omega)
  rw [e1, e2, e3, show A * A - -(B * B) = A * A + B * B by omega, show -(A * B) + A * B = 0 by omega] at T
  have n1 : (A * C - B * E).natAbs < 9007199254740992 := by omega
  have n2 : (A * E + B * C).natAbs < 9007199254740992 := by omega
  refine ⟨cl_self1 (F_snd nA) (F_snd nB), cl_self2 (F_snd nA) (F_snd nB), cl_self1 (F_snd nC) (F_snd nE), cl_self2 (F_snd nC) (F_snd nE), ?_, ?_, cl_self1 (F_snd nA) (F_snd nB'), cl_self2 (F_snd nA) (F_snd nB'), S.1, S.2.1, S.2.2, P.1, P.2.1, P.2.2, T.1, T.2.1, T.2.2, cl_self1 (F_snd n1) (F_snd n2), cl_self2 (F_snd n1) (F_snd n2), ordF (by omega), ordF (by omega), ordF n1, ordF n2, ordF (by omega), ?_, ?_⟩
  · have := cl_of1 (F_snd nA).fin fB
    rw [(F_snd nA).part] at this; exact this
  · have := cl_of2 (F_snd nA).fin fB
    rw [F_neg nB] at this; exact this
  · rintro rfl rfl x y
    have h : nought (floatOfInt .f64 0) = true := by rfl
    unfold qE; rw [h]; rfl
  · intro hn
    refine F_quo nC nE (by omega) (by omega) (by omega) (by omega) (fun h => hn ?_)
    have p1 := sq_nonneg C
    have p2 := sq_nonneg E
    exact ⟨sq_zero (by omega), sq_zero (by omega)⟩

set_option maxHeartbeats 2000000 in
theorem wholes_walk (a b c d : Int) (w : World) :
    Calls Try.prog 5 #[.int .i64 a, .int .i64 b, .int .i64 c, .int .i64 d] w fun e w' => e = .returned (.bool true) ∧ ∃ n, w' = w.drewN n := by
  obtain ⟨A, eA, hA, hA'⟩ := mask20 a
  obtain ⟨B, eB, hB, hB'⟩ := mask20 b
  obtain ⟨C, eC, hC, hC'⟩ := mask20 c
  obtain ⟨E, eE, hE, hE'⟩ := mask20 d
  have fa := facts hA hA' hB hB' hC hC' hE hE'
  obtain ⟨i1, i2, i3, i4, j1, j2, j3, j4, s1, s2, s3, p1, p2, p3, t1, t2, t3, k1, k2, c1, c2, c3, c4, c5, z, q⟩ := fa
  obtain ⟨b1, b2⟩ := prod_bd hA hA' hC hC'
  obtain ⟨b3, b4⟩ := prod_bd hB hB' hE hE'
  obtain ⟨b5, b6⟩ := prod_bd hA hA' hE hE'
  obtain ⟨b7, b8⟩ := prod_bd hB hB' hC hC'
  obtain ⟨b9, b10⟩ := prod_bd hA hA' hA hA'
  obtain ⟨b11, b12⟩ := prod_bd hB hB' hB hB'
  have W := fun n => wd_of_int n
  have c0 := ordF (n := 0) (by decide)
  have cO := ordF (n := 1) (by decide)
  have hz : (((C == 0) = true ∧ (E == 0) = true) ∧ ∀ x y, qE x y (floatOfInt .f64 C) (floatOfInt .f64 E) = 2) ∨ (((C == 0) = true ∧ (E == 0) = false) ∧ q1 (floatOfInt .f64 C) (floatOfInt .f64 E) (floatOfInt .f64 C) (floatOfInt .f64 E) = floatOfInt .f64 1 ∧ q2 (floatOfInt .f64 C) (floatOfInt .f64 E) (floatOfInt .f64 C) (floatOfInt .f64 E) = floatOfInt .f64 0 ∧ qE (floatOfInt .f64 C) (floatOfInt .f64 E) (floatOfInt .f64 C) (floatOfInt .f64 E) = 0) ∨ ((C == 0) = false ∧ q1 (floatOfInt .f64 C) (floatOfInt .f64 E) (floatOfInt .f64 C) (floatOfInt .f64 E) = floatOfInt .f64 1 ∧ q2 (floatOfInt .f64 C) (floatOfInt .f64 E) (floatOfInt .f64 C) (floatOfInt .f64 E) = floatOfInt .f64 0 ∧ qE (floatOfInt .f64 C) (floatOfInt .f64 E) (floatOfInt .f64 C) (floatOfInt .f64 E) = 0) := by
    by_cases h1 : C = 0
    · by_cases h2 : E = 0
      · exact .inl ⟨⟨by simpa using h1, by simpa using h2⟩, z h1 h2⟩
      · exact .inr (.inl ⟨⟨by simpa using h1, by simpa using h2⟩, q fun k => h2 k.2⟩)
    · exact .inr (.inr ⟨by simpa using h1, q fun k => h1 k.1⟩)
  clear z q
  rcases hz with ⟨⟨z1, z2⟩, y⟩ | ⟨⟨z1, z2⟩, y1, y2, y3⟩ | ⟨z1, y1, y2, y3⟩
  all_goals
    go_enter Try.func5, Try.ntmps5
    go_wp2_with (first | (go_at_call 18; refine (of_any _ _ _).mono ?_; rintro e w' ⟨rfl, rfl⟩) | (go_at_call 19; refine (add_any _ _ _ _ _ (W _) (W _) (W _) (W _)).mono ?_; rintro e w' ⟨rfl, rfl⟩) | (go_at_call 21; refine (conj_any _ _ _ (W _) (W _)).mono ?_; rintro e w' ⟨rfl, rfl⟩) | (go_at_call 20; refine (mul_any _ _ _ _ _ (W _) (W _) (W _) (W _)).mono ?_; rintro e w' ⟨rfl, n1, rfl⟩) | (go_at_call 22; refine (div_any _ _ _ _ _ (W _) (W _) (W _) (W _)).mono ?_; rintro e w' ⟨rfl, n2, rfl⟩) | (go_at_call 16; refine (awake_any _).mono ?_; rintro e w' ⟨rfl, n, rfl⟩))
    go_ret
    exact ⟨rfl, _, rfl⟩

end Go.Proofs.Ytglpdjkddekblab
