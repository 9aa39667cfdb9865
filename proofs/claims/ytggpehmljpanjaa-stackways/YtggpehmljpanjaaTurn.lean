/- What the small calls give: negatives, mirrors, sameness, soundness, whole parts, the statements' own helpers. -/
import Derived.Test.YtggpehmljpanjaaQuo
set_option linter.unusedSimpArgs false
namespace Go.Proofs.Ytggpehmljpanjaa

/-- A word with its sign turned. -/
def ng (x : Nat) : Nat := Op.negFloat .f64 x

theorem ng_eq {x : Nat} (h : Wd x) : ng x = if x < 9223372036854775808 then x + 9223372036854775808 else x - 9223372036854775808 := by
  unfold Wd at h
  show x ^^^ 2 ^ 63 = _
  have e : (2 : Nat) ^ 63 = 9223372036854775808 := rfl
  split
  · rename_i hl
    have h1 : x ^^^ 2 ^ 63 = 2 ^ 63 ||| x := by
      apply Nat.eq_of_testBit_eq
      intro i
      rw [Nat.testBit_xor, Nat.testBit_or, Nat.testBit_two_pow]
      by_cases hi : 63 = i
      · subst hi
        have : x.testBit 63 = false := Nat.testBit_lt_two_pow (by rw [e]; exact hl)
        simp [this]
      · simp [hi]
    have h2 := Nat.two_pow_add_eq_or_of_lt (i := 63) (b := x) (by rw [e]; exact hl) 1
    rw [Nat.mul_one] at h2
    rw [h1, ← h2, e]; omega
  · rename_i hl
    obtain ⟨y, rfl⟩ : ∃ y, x = 2 ^ 63 + y := ⟨x - 9223372036854775808, by rw [e]; omega⟩
    have hy : y < 2 ^ 63 := by rw [e] at h hl ⊢; omega
    have h2 := Nat.two_pow_add_eq_or_of_lt (i := 63) (b := y) hy 1
    rw [Nat.mul_one] at h2
    have h1 : (2 ^ 63 ||| y) ^^^ 2 ^ 63 = y := by
      apply Nat.eq_of_testBit_eq
      intro i
      rw [Nat.testBit_xor, Nat.testBit_or, Nat.testBit_two_pow]
      by_cases hi : 63 = i
      · subst hi
        have : y.testBit 63 = false := Nat.testBit_lt_two_pow hy
        simp [this]
      · simp [hi]
    rw [h2, h1, ← h2, e]; omega

theorem ng_wd {x : Nat} (h : Wd x) : Wd (ng x) := by
  rw [ng_eq h]
  unfold Wd at *
  split <;> omega

@[go_sem] theorem unary_ng (x : Nat) : Op.unary .neg (.float .f64 x) = pure (.float .f64 (ng x)) := rfl

theorem soundPart_any (x : Nat) (w : World) (hx : Wd x) :
    Calls Try.prog 44 #[.float .f64 x] w fun e w' => e = .returned (.bool (fin x && !neg0 x)) ∧ w' = w := by
  have hr : neg0 x = ((D.order x 0 == some .eq) && decide (9223372036854775808 ≤ x)) := rfl
  have K := hide hr
  clear hr
  cases hA : fin x <;> cases hB : (D.order x 0 == some .eq)
  all_goals
    go_enter Try.func44, Try.ntmps44
    go_wp2_with (first | (go_at_call 45; refine (finite_any _ _ ?_).mono ?_; assumption; rintro e w' ⟨rfl, rfl⟩) | (go_at_call 46; refine (signbit_any _ _ ?_).mono ?_; assumption; rintro e w' ⟨rfl, rfl⟩))
    go_ret
    exact ⟨ret_bool (by rw [unhide K, hB]; simp), rfl⟩

theorem ok_any (a b : Nat) (w : World) (ha : Wd a) (hb : Wd b) :
    Calls Try.prog 41 #[.complex .f64 a b] w fun e w' => e = .returned (.bool (okB a b)) ∧ w' = w := by
  have hr : okB a b = ((fin a && !neg0 a) && (fin b && !neg0 b)) := rfl
  have K := hide hr
  clear hr
  cases hA : (fin a && !neg0 a)
  all_goals
    go_enter Try.func41, Try.ntmps41
    go_wp2_with (go_at_call 44; refine (soundPart_any _ _ ?_).mono ?_; assumption; rintro e w' ⟨rfl, rfl⟩)
    go_ret
    exact ⟨ret_bool (by rw [unhide K, hA]; simp), rfl⟩

/-- Two numbers, the same to the bit. -/
def bitsB (a b c d : Nat) : Bool := decide (a = c) && decide (b = d)
theorem bitsB_self (a b : Nat) : bitsB a b a b = true := by simp [bitsB]

theorem int_beq (b d : Nat) : ((b : Int) == (d : Int)) = decide (b = d) := by rw [Bool.eq_iff_iff]; simp; omega

end Go.Proofs.Ytggpehmljpanjaa
