/- Plain facts on the words of float64: which are finite, which are nought, and that sums and products of finite ones are no NaN. -/
import Derived.Laws.FloatArith
namespace Go.Proofs.Ytggpehmljpanjaa

/-- The words of float64. -/
abbrev D : Ieee.Format := FloatKind.f64.format

/-- A word that stands for a number. -/
def fin (x : Nat) : Bool := match D.read x with | .number .. => true | _ => false
/-- A word of nought, of either sign. -/
def nought (x : Nat) : Bool := D.order x 0 == some .eq
/-- Minus nought made nought. -/
def part (x : Nat) : Nat := if nought x then 0 else x

theorem D_binade : D.binade = 4503599627370496 := by rfl
theorem D_sign : D.signWeight = 9223372036854775808 := by rfl
theorem D_inf : D.infRung = 9218868437227405312 := by rfl
theorem D_least : D.leastPlace = -1074 := by rfl

/-- How a word is read, with float64's own numbers. -/
theorem read_eq (x : Nat) : D.read x =
    if x % 9223372036854775808 < 4503599627370496 then .number (x / 9223372036854775808 % 2 == 1) (x % 9223372036854775808) (-1074)
    else if x % 9223372036854775808 < 9218868437227405312 then
      .number (x / 9223372036854775808 % 2 == 1) (4503599627370496 + x % 9223372036854775808 % 4503599627370496) (-1074 + (x % 9223372036854775808 / 4503599627370496 - 1 : Nat))
    else if x % 9223372036854775808 = 9218868437227405312 then .infinity (x / 9223372036854775808 % 2 == 1)
    else .nan (x / 9223372036854775808 % 2 == 1) (x % 9223372036854775808 - 9218868437227405312) := by
  unfold Ieee.Format.read
  rw [D_binade, D_sign, D_inf, D_least]

theorem fin_eq (x : Nat) : fin x = decide (x % 9223372036854775808 < 9218868437227405312) := by
  unfold fin
  rw [read_eq]
  by_cases h1 : x % 9223372036854775808 < 4503599627370496
  · rw [if_pos h1, eq_comm, decide_eq_true_eq]; omega
  · rw [if_neg h1]
    by_cases h2 : x % 9223372036854775808 < 9218868437227405312
    · rw [if_pos h2, eq_comm, decide_eq_true_eq]; exact h2
    · rw [if_neg h2]
      by_cases h3 : x % 9223372036854775808 = 9218868437227405312
      · rw [if_pos h3, eq_comm, decide_eq_false_iff_not]; exact h2
      · rw [if_neg h3, eq_comm, decide_eq_false_iff_not]; exact h2

/-- A finite word's number: its magnitude and its place are bounded. -/
theorem fin_read {x : Nat} (h : fin x = true) : ∃ s m i, D.read x = .number s m i ∧ m < 9007199254740992 ∧ -1074 ≤ i ∧ i ≤ 971 := by
  rw [fin_eq, decide_eq_true_eq] at h
  rw [read_eq]
  by_cases h1 : x % 9223372036854775808 < 4503599627370496
  · rw [if_pos h1]; exact ⟨_, _, _, rfl, by omega, by omega, by omega⟩
  · rw [if_neg h1, if_pos h]
    exact ⟨_, _, _, rfl, by omega, by omega, by omega⟩

theorem not_fin_read {x : Nat} (h : fin x = false) : (∃ s, D.read x = .infinity s) ∨ ∃ s t, D.read x = .nan s t := by
  rw [fin_eq, decide_eq_false_iff_not] at h
  rw [read_eq, if_neg (by omega), if_neg h]
  split
  · exact .inl ⟨_, rfl⟩
  · exact .inr ⟨_, _, rfl⟩

theorem read_max : D.read 9218868437227405311 = .number false 9007199254740991 971 := by rfl
theorem read_min : D.read 18442240474082181119 = .number true 9007199254740991 971 := by rfl
theorem read_zero : D.read 0 = .number false 0 (-1074) := by rfl

theorem shiftLeft_mono (m n k : Nat) (h : m ≤ n) : m ≤ n <<< k := by
  rw [Nat.shiftLeft_eq]
  exact Nat.le_trans h (Nat.le_mul_of_pos_right _ (Nat.two_pow_pos _))

theorem ord_self {x : Nat} (h : fin x = true) : D.order x x = some .eq := by
  obtain ⟨s, m, i, hr, _⟩ := fin_read h
  unfold Ieee.Format.order
  rw [hr]
  simp [Ieee.Datum.order]

theorem ord_max {x : Nat} (h : fin x = true) : D.order x 9218868437227405311 = some .lt ∨ D.order x 9218868437227405311 = some .eq := by
  obtain ⟨s, m, i, hr, hm, hi, hj⟩ := fin_read h
  unfold Ieee.Format.order
  rw [hr, read_max]
  have e : min i 971 = i := by omega
  simp only [Ieee.Datum.order, e, Option.some.injEq]
  have h1 := shiftLeft_mono m 9007199254740991 (971 - i).toNat (by omega)
  have h2 : Ieee.signed s m (i - i).toNat ≤ Ieee.signed false 9007199254740991 (971 - i).toNat := by
    unfold Ieee.signed
    simp only [Int.sub_self, Int.toNat_zero, Nat.shiftLeft_zero, Bool.false_eq_true, if_false]
    split <;> omega
  rw [Int.compare_eq_lt, Int.compare_eq_eq]
  omega

theorem ord_min {x : Nat} (h : fin x = true) : D.order x 18442240474082181119 = some .gt ∨ D.order x 18442240474082181119 = some .eq := by
  obtain ⟨s, m, i, hr, hm, hi, hj⟩ := fin_read h
  unfold Ieee.Format.order
  rw [hr, read_min]
  have e : min i 971 = i := by omega
  simp only [Ieee.Datum.order, e, Option.some.injEq]
  have h1 := shiftLeft_mono m 9007199254740991 (971 - i).toNat (by omega)
  have h2 : Ieee.signed true 9007199254740991 (971 - i).toNat ≤ Ieee.signed s m (i - i).toNat := by
    unfold Ieee.signed
    simp only [Int.sub_self, Int.toNat_zero, Nat.shiftLeft_zero, if_true]
    split <;> omega
  rw [Int.compare_eq_gt, Int.compare_eq_eq]
  omega

/-- The document's test of a finite part: x == x, x <= Max, x >= -Max. -/
theorem fin_ref (x : Nat) : fin x = ((D.order x x == some .eq) && (D.order x 9218868437227405311 == some .lt || D.order x 9218868437227405311 == some .eq) && (D.order x 18442240474082181119 == some .gt || D.order x 18442240474082181119 == some .eq)) := by
  cases h : fin x with
  | true =>
    rw [ord_self h]
    rcases ord_max h with e | e <;> rcases ord_min h with f | f <;> rw [e, f] <;> rfl
  | false =>
    unfold Ieee.Format.order
    rw [read_max, read_min]
    rcases not_fin_read h with ⟨s, hr⟩ | ⟨s, t, hr⟩ <;> rw [hr]
    · cases s <;> rfl
    · rfl

/-- The program's test of a finite part: its magnitude is not above Max, and it is no NaN. -/
theorem fin_prog (x : Nat) : fin x = (!(D.order (x % 9223372036854775808) 9218868437227405311 == some .gt) && !(D.order x x != some .eq)) := by
  have hm : x % 9223372036854775808 % 9223372036854775808 = x % 9223372036854775808 := by omega
  have hd : x % 9223372036854775808 / 9223372036854775808 % 2 = 0 := by omega
  cases h : fin x with
  | true =>
    have h' : fin (x % 9223372036854775808) = true := by rw [fin_eq, hm, ← fin_eq]; exact h
    rw [ord_self h]
    rcases ord_max h' with e | e <;> rw [e] <;> rfl
  | false =>
    have h' : fin (x % 9223372036854775808) = false := by rw [fin_eq, hm, ← fin_eq]; exact h
    unfold Ieee.Format.order
    rw [read_max]
    rcases not_fin_read h with ⟨s, hr⟩ | ⟨s, t, hr⟩
    · have : D.read (x % 9223372036854775808) = .infinity false := by
        rw [read_eq] at hr ⊢
        rw [hm, hd]
        repeat' split at hr
        all_goals simp_all
      rw [this, hr]
      cases s <;> rfl
    · rw [hr]
      simp [Ieee.Datum.order]

theorem nought_eq {x : Nat} : nought x = decide (x % 9223372036854775808 = 0) := by
  unfold nought Ieee.Format.order
  rw [read_zero, read_eq]
  have key : ∀ (s : Bool) (m : Nat) (i : Int), -1074 ≤ i → ((Ieee.Datum.number s m i).order (.number false 0 (-1074)) == some .eq) = decide (m = 0) := by
    intro s m i hi
    have e : min i (-1074) = -1074 := by omega
    simp only [Ieee.Datum.order, e]
    have e2 : Ieee.signed false 0 (-1074 - -1074 : Int).toNat = 0 := by rfl
    rw [e2]
    unfold Ieee.signed
    rw [Nat.shiftLeft_eq]
    by_cases hm : m = 0
    · subst hm; cases s <;> simp
    · have hp : 0 < m * 2 ^ (i - -1074).toNat := Nat.mul_pos (by omega) (Nat.two_pow_pos _)
      have : compare (if s = true then -((m * 2 ^ (i - -1074).toNat : Nat) : Int) else ((m * 2 ^ (i - -1074).toNat : Nat) : Int)) 0 ≠ .eq := by
        rw [Ne, Int.compare_eq_eq]
        cases s <;> simp only [if_true, Bool.false_eq_true, if_false] <;> omega
      rw [decide_eq_false hm, beq_eq_false_iff_ne, Ne, Option.some.injEq]
      exact this
  split
  · rw [key _ _ _ (by omega)]
  · split
    · rw [key _ _ _ (by omega)]
      simp only [decide_eq_decide]; omega
    · split
      · rename_i h1 h2 h3
        rw [h3]; cases (x / 9223372036854775808 % 2 == 1) <;> rfl
      · rename_i h1 h2 h3
        have : ¬ x % 9223372036854775808 = 0 := by omega
        simp [Ieee.Datum.order, this]

theorem fin_part {x : Nat} (h : fin x = true) : fin (part x) = true := by
  unfold part; split
  · rfl
  · exact h

theorem part_part (x : Nat) : part (part x) = part x := by
  unfold part
  by_cases h : nought x = true
  · rw [if_pos h, if_pos (by rfl)]
  · rw [if_neg h, if_neg h]

theorem add_some {x y : Nat} (hx : fin x = true) (hy : fin y = true) : ∃ r, D.add x y = some r := by
  obtain ⟨s, m, i, hr, _⟩ := fin_read hx
  obtain ⟨t, n, j, hq, _⟩ := fin_read hy
  unfold Ieee.Format.add
  rw [hr, hq]
  exact ⟨_, rfl⟩

theorem sub_some {x y : Nat} (hx : fin x = true) (hy : fin y = true) : ∃ r, D.sub x y = some r := by
  obtain ⟨s, m, i, hr, _⟩ := fin_read hx
  obtain ⟨t, n, j, hq, _⟩ := fin_read hy
  unfold Ieee.Format.sub
  rw [hr, hq]
  exact ⟨_, rfl⟩

theorem mul_some {x y : Nat} (hx : fin x = true) (hy : fin y = true) : ∃ r, D.mul x y = some r := by
  obtain ⟨s, m, i, hr, _⟩ := fin_read hx
  obtain ⟨t, n, j, hq, _⟩ := fin_read hy
  unfold Ieee.Format.mul
  rw [hr, hq]
  exact ⟨_, rfl⟩

/-- A NaN's word. -/
def nan (x : Nat) : Bool := (D.read x).isNaN

theorem fin_of_nan {x : Nat} (h : nan x = true) : fin x = false := by
  unfold nan at h
  unfold fin
  split
  · rename_i hr; rw [hr] at h; cases h
  · rfl

/-- What the tape answers for a NaN is one. -/
theorem nan_cut (x y t : Nat) : nan ((Question.nanBits .f64 x y).cut t) = true := by
  unfold nan
  simp only [Question.cut]
  obtain ⟨u, hu⟩ : ∃ u, u = t / 2 % (2 ^ 52 - 1) := ⟨_, rfl⟩
  have hl : u < 4503599627370495 := by rw [hu]; exact Nat.mod_lt _ (by decide)
  have hs : t % 2 < 2 := Nat.mod_lt _ (by decide)
  rw [← hu, show (2 : Nat) ^ 63 = 9223372036854775808 from rfl]
  generalize t % 2 = s at hs
  rw [read_eq, if_neg (by omega), if_neg (by omega), if_neg (by omega)]
  rfl

theorem div_nan {x y : Nat} (h : nan x = true) : D.div x y = none := by
  unfold Ieee.Format.div
  unfold nan at h
  cases hr : D.read x with
  | nan s t => simp [Ieee.Datum.quotient]
  | number => rw [hr] at h; cases h
  | infinity => rw [hr] at h; cases h

theorem div_some {x y : Nat} (hx : nan x = false) (hy : fin y = true) (h0 : nought y = false) : ∃ r, D.div x y = some r := by
  obtain ⟨t, n, j, hq, _⟩ := fin_read hy
  have hn : n ≠ 0 := by
    intro hn
    subst hn
    rw [nought_eq, decide_eq_false_iff_not] at h0
    rw [fin_eq, decide_eq_true_eq] at hy
    rw [read_eq] at hq
    by_cases h1 : y % 9223372036854775808 < 4503599627370496
    · rw [if_pos h1] at hq
      simp only [Ieee.Datum.number.injEq] at hq; omega
    · rw [if_neg h1, if_pos hy] at hq
      simp only [Ieee.Datum.number.injEq] at hq; omega
  unfold Ieee.Format.div
  unfold nan at hx
  cases hr : D.read x with
  | nan s t => rw [hr] at hx; cases hx
  | number s m i => rw [hq]; simp [Ieee.Datum.quotient, hn]
  | infinity s => rw [hq]; exact ⟨_, rfl⟩

end Go.Proofs.Ytggpehmljpanjaa
