/- Plain facts on the arithmetic of float64's words as the walk gives it: what the machine hands back is the document's number or a NaN. -/
import Derived.Test.YtggpehmljpanjaaLeaf
set_option linter.unusedSimpArgs false
namespace Go.Proofs.Ytggpehmljpanjaa

theorem cl_fin1 (a b : Nat) : fin (cl1 a b) = true := by
  unfold cl1 fin2
  split
  · rename_i h; rw [Bool.and_eq_true] at h; exact fin_part h.1
  · rfl
theorem cl_fin2 (a b : Nat) : fin (cl2 a b) = true := by
  unfold cl2 fin2
  split
  · rename_i h; rw [Bool.and_eq_true] at h; exact fin_part h.2
  · rfl
theorem part_wd {x : Nat} (h : Wd x) : Wd (part x) := by
  unfold part; split
  · unfold Wd; omega
  · exact h
theorem cl_wd1 {a b : Nat} (h : Wd a) : Wd (cl1 a b) := by
  unfold cl1; split
  · exact part_wd h
  · unfold Wd; omega
theorem cl_wd2 {a b : Nat} (h : Wd b) : Wd (cl2 a b) := by
  unfold cl2; split
  · exact part_wd h
  · unfold Wd; omega

/-- What an operation hands back: its number, or else a NaN. -/
def Is (o : Option Nat) (r : Nat) : Prop := match o with | some v => r = v | none => nan r = true

/-- The NaN that the tape gives. -/
def nanAt (w : World) (x y : Nat) : Nat := (Question.nanBits .f64 x y).cut (w.tape w.drawn (.nanBits .f64 x y))
theorem nanAt_nan (w : World) (x y : Nat) : nan (nanAt w x y) = true := nan_cut ..
theorem nanAt_wd (w : World) (x y : Nat) : Wd (nanAt w x y) := by
  unfold nanAt Wd
  generalize w.tape w.drawn (.nanBits .f64 x y) = t
  simp only [Question.cut]
  have h1 : t % 2 < 2 := Nat.mod_lt _ (by decide)
  have h2 : t / 2 % (2 ^ 52 - 1) < 4503599627370495 := Nat.mod_lt _ (by decide)
  rw [show (2 : Nat) ^ 63 = 9223372036854775808 from rfl]
  generalize t % 2 = s at h1
  generalize t / 2 % (2 ^ 52 - 1) = u at h2
  omega

/-- The value of an operation in a world, and how often it asks the tape. -/
def arV (op : BinOp) (x y : Nat) (w : World) : Nat := match floatBits op .f64 x y with | some v => v | none => nanAt w x y
def arN (op : BinOp) (x y : Nat) : Nat := match floatBits op .f64 x y with | some _ => 0 | none => 1

theorem arV_is (op : BinOp) (x y : Nat) (w : World) : Is (floatBits op .f64 x y) (arV op x y w) := by
  unfold Is arV
  split
  · rfl
  · exact nanAt_nan ..

theorem wd_of_bits {op : BinOp} {x y r : Nat} (h : floatBits op .f64 x y = some r) : Wd r := by
  have := floatBits_wf h
  simp only [Lit.wf, decide_eq_true_eq] at this
  exact this

theorem arV_wd (op : BinOp) (x y : Nat) (w : World) : Wd (arV op x y w) := by
  unfold arV
  split
  · rename_i h; exact wd_of_bits h
  · exact nanAt_wd ..

theorem run_ar (P : Program) (op : BinOp) (hop : op = .add ∨ op = .sub ∨ op = .mul ∨ op = .quo) (t : TypeId) (x y : Nat) (w : World) :
    (binOp op t (.float .f64 x) (.float .f64 y)).run P w = .ok (.float .f64 (arV op x y w)) (w.drewN (arN op x y)) := by
  unfold arV arN
  cases h : floatBits op .f64 x y with
  | some r => exact run_float_arith w op t .f64 x y r h
  | none =>
    have hq : (Question.nanBits .f64 x y).forced = false := rfl
    unfold floatBits at h
    rcases hop with rfl | rfl | rfl | rfl <;> simp only at h <;> simp [binOp, Op.floatArith, h, nanAt, hq] <;> rfl

theorem fin_of_is_none {r : Nat} (h : Is none r) : fin r = false := fin_of_nan h

/-- A number of two parts made sound, each part known or a NaN. -/
def o1 (p q : Option Nat) : Nat := match p, q with | some x, some y => cl1 x y | _, _ => 0
def o2 (p q : Option Nat) : Nat := match p, q with | some x, some y => cl2 x y | _, _ => 0
def oE (p q : Option Nat) : Int := match p, q with | some x, some y => clE x y | _, _ => 5

theorem cl_o {p q : Option Nat} {x y : Nat} (hp : Is p x) (hq : Is q y) : cl1 x y = o1 p q ∧ cl2 x y = o2 p q ∧ clE x y = oE p q := by
  cases p with
  | none => simp [cl1, cl2, clE, fin2, fin_of_is_none hp, o1, o2, oE]
  | some u =>
    cases q with
    | none => simp [cl1, cl2, clE, fin2, fin_of_is_none hq, o1, o2, oE]
    | some v => cases hp; cases hq; exact ⟨rfl, rfl, rfl⟩

theorem is_quo {o : Option Nat} {u n : Nat} (h : Is o u) (w : World) : Is (o.bind fun x => D.div x n) (arV .quo u n w) := by
  cases o with
  | none =>
    have hd : floatBits .quo .f64 u n = none := div_nan (y := n) h
    have := arV_is .quo u n w
    rw [hd] at this
    exact this
  | some v => cases h; exact arV_is .quo u n w

/-- A square is no greater than infinity, and not negative. -/
theorem sq_le {c x : Nat} (hc : fin c = true) (h : D.mul c c = some x) : x ≤ 9218868437227405312 := by
  obtain ⟨s, m, i, hr, _⟩ := fin_read hc
  unfold Ieee.Format.mul at h
  rw [hr] at h
  simp only [Ieee.Datum.product, Bool.xor_self, Option.map_some, Option.some.injEq] at h
  subst h
  simp only [Ieee.Format.write, Ieee.Format.nearest, Ieee.Format.word, D_inf]
  split
  · simp
  · simp only [Bool.false_eq_true, if_false]; exact Nat.min_le_right _ _

theorem read_sq {x : Nat} (h : x ≤ 9218868437227405312) : fin x = true ∨ D.read x = .infinity false := by
  by_cases e : x = 9218868437227405312
  · subst e; exact .inr rfl
  · left; rw [fin_eq, decide_eq_true_eq]; omega

theorem sq_sum {x y : Nat} (hx : x ≤ 9218868437227405312) (hy : y ≤ 9218868437227405312) : ∃ n, D.add x y = some n := by
  unfold Ieee.Format.add
  rcases read_sq hx with h | h <;> rcases read_sq hy with k | k
  · obtain ⟨s, m, i, hr, _⟩ := fin_read h
    obtain ⟨t, n, j, hq, _⟩ := fin_read k
    rw [hr, hq]; exact ⟨_, rfl⟩
  · obtain ⟨s, m, i, hr, _⟩ := fin_read h
    rw [hr, k]; exact ⟨_, rfl⟩
  · obtain ⟨t, n, j, hq, _⟩ := fin_read k
    rw [h, hq]; exact ⟨_, rfl⟩
  · rw [h, k]; exact ⟨_, rfl⟩

/-- The product's parts, of sound parts. -/
def mulP (a b c d : Nat) : Option Nat := (D.mul a c).bind fun p => (D.mul b d).bind fun q => D.sub p q
def mulQ (a b c d : Nat) : Option Nat := (D.mul a d).bind fun p => (D.mul b c).bind fun q => D.add p q
/-- The sum of the squares of a divisor's parts, and the quotient's parts and error, of sound parts. -/
def sqN (c d : Nat) : Option Nat := (D.mul c c).bind fun p => (D.mul d d).bind fun q => D.add p q
def divP (a b c d n : Nat) : Option Nat := ((D.mul a c).bind fun p => (D.mul b d).bind fun q => D.add p q).bind fun x => D.div x n
def divQ (a b c d n : Nat) : Option Nat := ((D.mul b c).bind fun p => (D.mul a d).bind fun q => D.sub p q).bind fun x => D.div x n
def badN (n : Nat) : Bool := nought n || !fin n
def q1 (a b c d : Nat) : Nat := if nought c && nought d then 0 else match sqN c d with | none => 0 | some n => if badN n then 0 else o1 (divP a b c d n) (divQ a b c d n)
def q2 (a b c d : Nat) : Nat := if nought c && nought d then 0 else match sqN c d with | none => 0 | some n => if badN n then 0 else o2 (divP a b c d n) (divQ a b c d n)
def qE (a b c d : Nat) : Int := if nought c && nought d then 2 else match sqN c d with | none => 5 | some n => if badN n then 5 else oE (divP a b c d n) (divQ a b c d n)

end Go.Proofs.Ytggpehmljpanjaa
