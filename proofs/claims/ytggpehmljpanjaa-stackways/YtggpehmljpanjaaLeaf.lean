/- What the leaves do: the program's and the document's tests of a part, a part without minus nought, a number made sound. -/
import Derived.Test.YtggpehmljpanjaaChecked
import Derived.WalkKit
import Derived.WalkLawsBesides
import Derived.WalkSpells
import Derived.Laws.ComplexArith
import Derived.Deep.Draws
import Derived.Test.YtggpehmljpanjaaFloat
set_option linter.unusedSimpArgs false
namespace Go.Proofs.Ytggpehmljpanjaa

/-- A hypothesis that the walk shall not take for a rule. -/
def Hd (p : Prop) : Prop := p
theorem hide {p : Prop} (h : p) : Hd p := h
theorem unhide {p : Prop} (h : Hd p) : p := h

/-- A word of 64 bits. -/
def Wd (x : Nat) : Prop := x < 18446744073709551616

@[go_sem] theorem call_bits (x : Nat) (w : World) : (callFunc 49 #[.float .f64 x]).run Try.prog w = .ok (.value (.int .u64 x)) w := by kernel_rfl
@[go_sem] theorem call_frombits (n : Int) (w : World) : (callFunc 51 #[.int .u64 n]).run Try.prog w = .ok (.value (.float .f64 n.toNat)) w := by kernel_rfl

theorem ret_float {a b : Nat} (h : a = b) : Ending.returned (.float .f64 a) = .returned (.float .f64 b) := by rw [h]
theorem ret_bool {a b : Bool} (h : a = b) : Ending.returned (.bool a) = .returned (.bool b) := by rw [h]

theorem abs_bits (x : Nat) (hx : x < 18446744073709551616) : (bits .andNot .u64 (x : Int) 9223372036854775808).toNat = x % 9223372036854775808 := by
  have h := u64_andNot_nat x 9223372036854775808 hx (by decide)
  have e : ((9223372036854775808 : Nat) : Int) = 9223372036854775808 := rfl
  rw [e] at h
  rw [h, Int.toNat_natCast]
  exact Nat.and_two_pow_sub_one_eq_mod x 63

theorem abs_any (x : Nat) (w : World) (hx : Wd x) :
    Calls Try.prog 50 #[.float .f64 x] w fun e w' => e = .returned (.float .f64 (x % 9223372036854775808)) ∧ w' = w := by
  have h := abs_bits x hx
  go_enter Try.func50, Try.ntmps50
  go_wp2
  go_ret
  exact ⟨ret_float (by first | rfl | exact h), rfl⟩

theorem isnan_any (x : Nat) (w : World) :
    Calls Try.prog 48 #[.float .f64 x] w fun e w' => e = .returned (.bool (D.order x x != some .eq)) ∧ w' = w := by
  go_enter Try.func48, Try.ntmps48
  go_wp2
  go_ret
  exact ⟨rfl, rfl⟩

theorem isinf_any (x : Nat) (w : World) (hx : Wd x) :
    Calls Try.prog 47 #[.float .f64 x, .int .i64 0] w fun e w' => e = .returned (.bool (D.order (x % 9223372036854775808) 9218868437227405311 == some .gt)) ∧ w' = w := by
  go_enter Try.func47, Try.ntmps47
  go_wp2_with (go_at_call 50; refine (abs_any _ _ hx).mono ?_; rintro e w' ⟨rfl, rfl⟩)
  go_ret
  exact ⟨rfl, rfl⟩

theorem signbit_any (x : Nat) (w : World) (hx : Wd x) :
    Calls Try.prog 46 #[.float .f64 x] w fun e w' => e = .returned (.bool (decide (9223372036854775808 ≤ x))) ∧ w' = w := by
  unfold Wd at hx
  go_enter Try.func46, Try.ntmps46
  go_wp2
  go_ret
  refine ⟨ret_bool ?_, rfl⟩
  simp only [decide_eq_decide, RowKit.wrap64]
  omega

theorem finite_any (x : Nat) (w : World) (hx : Wd x) :
    Calls Try.prog 45 #[.float .f64 x] w fun e w' => e = .returned (.bool (fin x)) ∧ w' = w := by
  have hf := fin_prog x
  cases hA : (D.order (x % 9223372036854775808) 9218868437227405311 == some .gt) <;> cases hB : (D.order x x != some .eq)
  all_goals
    rw [hA, hB] at hf
    go_enter Try.func45, Try.ntmps45
    go_wp2_with (first | (go_at_call 47; refine (isinf_any _ _ hx).mono ?_; rintro e w' ⟨rfl, rfl⟩) | (go_at_call 48; refine (isnan_any _ _).mono ?_; rintro e w' ⟨rfl, rfl⟩))
    go_ret
    exact ⟨ret_bool (by rw [hf]; rfl), rfl⟩

/-- A part that is minus nought. -/
def neg0 (x : Nat) : Bool := nought x && decide (9223372036854775808 ≤ x)
/-- A number that is sound. -/
def okB (re im : Nat) : Bool := (fin re && !neg0 re) && (fin im && !neg0 im)
/-- Both parts are finite. -/
def fin2 (re im : Nat) : Bool := fin re && fin im
/-- The real part, the imaginary part and the error of a number made sound. -/
def cl1 (re im : Nat) : Nat := if fin2 re im then part re else 0
def cl2 (re im : Nat) : Nat := if fin2 re im then part im else 0
def clE (re im : Nat) : Int := if fin2 re im then 0 else 5

theorem ret_cx {a b c d : Nat} {e f : Int} (h1 : a = b) (h2 : c = d) (h3 : e = f) : Ending.returned (.tuple #[.complex .f64 a c, .int .i64 e]) = .returned (.tuple #[.complex .f64 b d, .int .i64 f]) := by rw [h1, h2, h3]
theorem ret_c {a b c d : Nat} (h1 : a = b) (h2 : c = d) : Ending.returned (.complex .f64 a c) = .returned (.complex .f64 b d) := by rw [h1, h2]

end Go.Proofs.Ytggpehmljpanjaa
