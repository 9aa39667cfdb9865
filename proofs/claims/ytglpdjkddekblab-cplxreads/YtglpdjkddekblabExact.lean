/- Plain facts on rounding to float64: it hangs on the value alone, a word's own number rounds to the word, sums and products do not hang on their order, and a turned sign turns the result. -/
import Derived.Test.YtglpdjkddekblabFloat
namespace Go.Proofs.Ytglpdjkddekblab

/-- Rounding to the nearest whole, ties to even. -/
def cutE (n d : Nat) : Nat := Ieee.Toward.even.cut false n d

theorem cutE_eq (n d : Nat) : cutE n d = n / 2 ^ min d (n.log2 + 2) + (decide (2 ^ min d (n.log2 + 2) < 2 * (n % 2 ^ min d (n.log2 + 2))) || (2 ^ min d (n.log2 + 2) == 2 * (n % 2 ^ min d (n.log2 + 2)) && n / 2 ^ min d (n.log2 + 2) % 2 == 1)).toNat := by
  unfold cutE Ieee.Toward.cut
  simp only [Nat.one_shiftLeft]

theorem cutE_zero (n : Nat) : cutE n 0 = n := by
  rw [cutE_eq]
  simp [Nat.mod_one]

theorem log2_mul_two_pow (n j : Nat) (h : n ≠ 0) : (n * 2 ^ j).log2 = n.log2 + j := by
  have hp : n * 2 ^ j ≠ 0 := Nat.mul_ne_zero h (Nat.pos_iff_ne_zero.1 (Nat.two_pow_pos j))
  rw [Nat.log2_eq_iff hp]
  have h1 := Nat.log2_self_le h
  have h2 : n < 2 ^ (n.log2 + 1) := Nat.lt_log2_self
  constructor
  · rw [Nat.pow_add]; exact Nat.mul_le_mul_right _ h1
  · rw [show n.log2 + j + 1 = n.log2 + 1 + j by omega, Nat.pow_add]
    exact Nat.mul_lt_mul_of_pos_right h2 (Nat.two_pow_pos j)

theorem cutE_scale (n d j : Nat) (h : n ≠ 0) : cutE (n * 2 ^ j) (d + j) = cutE n d := by
  have hp : 0 < 2 ^ j := Nat.two_pow_pos j
  rw [cutE_eq, cutE_eq, log2_mul_two_pow n j h]
  have e : min (d + j) (n.log2 + j + 2) = min d (n.log2 + 2) + j := by omega
  rw [e, Nat.pow_add]
  generalize 2 ^ min d (n.log2 + 2) = g
  rw [Nat.mul_div_mul_right _ _ hp, Nat.mul_mod_mul_right, ← Nat.mul_assoc 2 (n % g)]
  have e1 : decide (g * 2 ^ j < 2 * (n % g) * 2 ^ j) = decide (g < 2 * (n % g)) := by
    rw [decide_eq_decide]; exact Nat.mul_lt_mul_right hp
  have e2 : (g * 2 ^ j == 2 * (n % g) * 2 ^ j) = (g == 2 * (n % g)) := by
    rw [Bool.eq_iff_iff, beq_iff_eq, beq_iff_eq]; exact Nat.mul_left_inj (Nat.pos_iff_ne_zero.1 hp)
  rw [e1, e2]

theorem cutE_exact (n d j : Nat) (h : n ≠ 0) (hd : d ≤ j) : cutE (n * 2 ^ j) d = n * 2 ^ (j - d) := by
  have e : n * 2 ^ j = n * 2 ^ (j - d) * 2 ^ d := by
    rw [Nat.mul_assoc, ← Nat.pow_add, Nat.sub_add_cancel hd]
  have hne : n * 2 ^ (j - d) ≠ 0 := Nat.mul_ne_zero h (Nat.pos_iff_ne_zero.1 (Nat.two_pow_pos _))
  have := cutE_scale (n * 2 ^ (j - d)) 0 d hne
  rw [Nat.zero_add, cutE_zero] at this
  rw [e, this]

/-- The last place that is kept, and the rung, of a magnitude. -/
def lastOf (mag : Nat) (place : Int) : Int := max (place + mag.log2 - 52) (-1074)
def rungOf (mag : Nat) (place : Int) : Nat :=
  if mag = 0 then 0 else min ((lastOf mag place - -1074).toNat * 4503599627370496 + cutE (mag <<< (place - lastOf mag place).toNat) (lastOf mag place - place).toNat) 9218868437227405312

theorem nearest_eq (neg : Bool) (mag : Nat) (place : Int) : D.nearest neg mag place = D.word neg (rungOf mag place) := by
  unfold Ieee.Format.nearest rungOf
  rw [D_least, D_binade, D_inf]
  split
  · rfl
  · rfl

theorem rung_le (mag : Nat) (place : Int) : rungOf mag place ≤ 9218868437227405312 := by
  unfold rungOf; split
  · omega
  · exact Nat.min_le_right _ _

theorem last_shift (mag j : Nat) (place : Int) (h : mag ≠ 0) : lastOf (mag * 2 ^ j) (place - j) = lastOf mag place := by
  unfold lastOf
  rw [log2_mul_two_pow mag j h]
  omega

/-- Rounding hangs on the value alone. -/
theorem rung_shift (mag j : Nat) (place : Int) : rungOf (mag * 2 ^ j) (place - j) = rungOf mag place := by
  unfold rungOf
  by_cases h : mag = 0
  · subst h; simp
  · have hne : mag * 2 ^ j ≠ 0 := Nat.mul_ne_zero h (Nat.pos_iff_ne_zero.1 (Nat.two_pow_pos _))
    rw [if_neg h, if_neg hne, last_shift mag j place h]
    generalize lastOf mag place = last
    have key : cutE ((mag * 2 ^ j) <<< (place - j - last).toNat) (last - (place - j)).toNat = cutE (mag <<< (place - last).toNat) (last - place).toNat := by
      rw [Nat.shiftLeft_eq, Nat.shiftLeft_eq]
      by_cases hd : 0 ≤ last - place
      · have e1 : (place - j - last).toNat = 0 := by omega
        have e2 : (place - last).toNat = 0 := by omega
        have e3 : (last - (place - j)).toNat = (last - place).toNat + j := by omega
        rw [e1, e2, e3, Nat.pow_zero, Nat.mul_one, Nat.mul_one]
        exact cutE_scale mag _ j h
      · have e3 : (last - place).toNat = 0 := by omega
        rw [e3, cutE_zero]
        by_cases hj : (j : Int) ≤ place - last
        · have e4 : (last - (place - j)).toNat = 0 := by omega
          rw [e4, cutE_zero, Nat.mul_assoc, ← Nat.pow_add]
          congr 2; omega
        · have e4 : (place - j - last).toNat = 0 := by omega
          rw [e4, Nat.pow_zero, Nat.mul_one, cutE_exact mag _ j h (by omega)]
          congr 2; omega
    rw [key]

/-- A normal form's rung. -/
theorem rung_norm (m : Nat) (i : Int) (hm : m < 9007199254740992) (hi : -1074 ≤ i) (hn : i = -1074 ∨ 4503599627370496 ≤ m) :
    rungOf m i = if m = 0 then 0 else min ((i - -1074).toNat * 4503599627370496 + m) 9218868437227405312 := by
  unfold rungOf
  by_cases h : m = 0
  · rw [if_pos h, if_pos h]
  · rw [if_neg h, if_neg h]
    have h1 := Nat.log2_self_le h
    have h2 : m.log2 < 53 := (Nat.log2_lt h).2 (by omega)
    have hl : lastOf m i = i := by
      unfold lastOf
      rcases hn with hn | hn
      · omega
      · have : 52 ≤ m.log2 := (Nat.le_log2 h).2 (by omega)
        omega
    rw [hl]
    have e : (i - i).toNat = 0 := by omega
    rw [e, cutE_zero, Nat.shiftLeft_zero]

/-- What is read from a finite word is in normal form, and is that word's rung. -/
theorem read_norm {x : Nat} (h : fin x = true) : ∃ m i, D.read x = .number (x / 9223372036854775808 % 2 == 1) m i ∧ m < 9007199254740992 ∧ -1074 ≤ i ∧ i ≤ 971 ∧ (i = -1074 ∨ 4503599627370496 ≤ m) ∧ rungOf m i = x % 9223372036854775808 ∧ (m = 0 ↔ x % 9223372036854775808 = 0) := by
  rw [fin_eq, decide_eq_true_eq] at h
  rw [read_eq]
  by_cases h1 : x % 9223372036854775808 < 4503599627370496
  · rw [if_pos h1]
    refine ⟨_, _, rfl, by omega, by omega, by omega, .inl rfl, ?_, Iff.rfl⟩
    rw [rung_norm _ _ (by omega) (by omega) (.inl rfl)]
    split
    · omega
    · have e : (-1074 - -1074 : Int).toNat = 0 := by rfl
      rw [e]; omega
  · rw [if_neg h1, if_pos h]
    refine ⟨_, _, rfl, by omega, by omega, by omega, .inr (by omega), ?_, by omega⟩
    rw [rung_norm _ _ (by omega) (by omega) (.inr (by omega)), if_neg (by omega)]
    have e : (-1074 + ((x % 9223372036854775808 / 4503599627370496 - 1 : Nat) : Int) - -1074).toNat = x % 9223372036854775808 / 4503599627370496 - 1 := by omega
    rw [e]; omega

theorem word_eq (s : Bool) (r : Nat) : D.word s r = if s then 9223372036854775808 + r else r := by
  unfold Ieee.Format.word; rw [D_sign]

/-- A word of 64 bits is its sign and its rung. -/
theorem word_self {x : Nat} (h : x < 18446744073709551616) : D.word (x / 9223372036854775808 % 2 == 1) (x % 9223372036854775808) = x := by
  rw [word_eq]
  by_cases e : x / 9223372036854775808 % 2 = 1
  · rw [if_pos (by rw [e]; rfl)]; omega
  · rw [if_neg (by simpa using e)]; omega

/-- Of a word of a sign and a rung: the sign, the rung. -/
theorem word_sign {s : Bool} {r : Nat} (h : r < 9223372036854775808) : (D.word s r / 9223372036854775808 % 2 == 1) = s := by
  rw [word_eq]; cases s <;> simp <;> omega
theorem word_rung {s : Bool} {r : Nat} (h : r < 9223372036854775808) : D.word s r % 9223372036854775808 = r := by
  rw [word_eq]; cases s <;> simp <;> omega

theorem add_comm (x y : Nat) : D.add x y = D.add y x := by
  unfold Ieee.Format.add
  congr 1
  cases D.read x <;> cases D.read y <;> simp only [Ieee.Datum.sum]
  · rename_i s m i t n j
    rw [Int.min_comm j i, Int.add_comm, Bool.and_comm]
  · rename_i s t
    by_cases h : s = t
    · rw [if_pos h, if_pos h.symm, h]
    · rw [if_neg h, if_neg (fun e => h e.symm)]

theorem mul_comm (x y : Nat) : D.mul x y = D.mul y x := by
  unfold Ieee.Format.mul
  congr 1
  cases D.read x <;> cases D.read y <;> simp only [Ieee.Datum.product]
  · rename_i s m i t n j
    rw [Bool.xor_comm, Nat.mul_comm, Int.add_comm]
  · rename_i s t
    rw [Bool.xor_comm]

end Go.Proofs.Ytglpdjkddekblab
