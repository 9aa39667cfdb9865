/- What the statement of the laws of sums and products does: order, nought, one, what is taken from itself. -/
import Derived.Test.YtglpdjkddekblabLawTurns
import Derived.Test.YtglpdjkddekblabExact
set_option linter.unusedSimpArgs false
namespace Go.Proofs.Ytglpdjkddekblab

theorem read_nought {z : Nat} (h : nought z = true) : ∃ t, D.read z = .number t 0 (-1074) := by
  rw [nought_eq, decide_eq_true_eq] at h
  rw [read_eq, if_pos (by omega), h]
  exact ⟨_, rfl⟩

theorem write_number (s : Bool) (m : Nat) (i : Int) : D.write (.number s m i) = D.word s (rungOf m i) := nearest_eq s m i

theorem sum_nought {u : Nat} (hw : Wd u) (hf : fin u = true) (hp : part u = u) (t : Bool) : ((D.read u).sum (.number t 0 (-1074))).map D.write = some u := by
  obtain ⟨m, i, hr, hm, hi, _, _, hg, h0⟩ := read_norm hf
  have hself := word_self hw
  have hz : m = 0 → u = 0 := by
    intro e
    have : nought u = true := by rw [nought_eq, decide_eq_true_eq]; exact h0.1 e
    rw [← hp]; exact part_of_nought this
  rw [hr]
  generalize (u / 9223372036854775808 % 2 == 1) = s at hself ⊢
  have e : min i (-1074) = -1074 := by omega
  have et : Ieee.signed t 0 (-1074 - -1074 : Int).toNat = 0 := by cases t <;> rfl
  simp only [Ieee.Datum.sum, e, Option.map_some, et, Int.add_zero, Option.some.injEq]
  unfold Ieee.signed
  rw [Nat.shiftLeft_eq, write_number]
  by_cases hm0 : m = 0
  · have hu := hz hm0
    subst hm0
    rw [hu] at hself
    have hs : s = false := by
      cases s with
      | false => rfl
      | true => rw [word_eq] at hself; simp at hself
    subst hs
    simp [rungOf, word_eq, hu]
  · have hp2 : 0 < m * 2 ^ (i - -1074).toNat := Nat.mul_pos (by omega) (Nat.two_pow_pos _)
    have e1 : ((if s = true then -((m * 2 ^ (i - -1074).toNat : Nat) : Int) else ((m * 2 ^ (i - -1074).toNat : Nat) : Int))).natAbs = m * 2 ^ (i - -1074).toNat := by
      cases s <;> simp only [if_true, Bool.false_eq_true, if_false] <;> omega
    have e2 : ¬ (if s = true then -((m * 2 ^ (i - -1074).toNat : Nat) : Int) else ((m * 2 ^ (i - -1074).toNat : Nat) : Int)) = 0 := by
      cases s <;> simp only [if_true, Bool.false_eq_true, if_false] <;> omega
    have e3 : decide ((if s = true then -((m * 2 ^ (i - -1074).toNat : Nat) : Int) else ((m * 2 ^ (i - -1074).toNat : Nat) : Int)) < 0) = s := by
      cases s <;> simp only [if_true, Bool.false_eq_true, if_false, decide_eq_true_eq, decide_eq_false_iff_not] <;> omega
    have e4 : (-1074 : Int) = i - ((i - -1074).toNat : Nat) := by omega
    rw [if_neg e2, e1, e3]
    have := rung_shift m (i - -1074).toNat i
    rw [← e4] at this
    rw [this, hg, hself]

theorem add_nought {u z : Nat} (hw : Wd u) (hf : fin u = true) (hp : part u = u) (hz : nought z = true) : D.add u z = some u := by
  obtain ⟨t, ht⟩ := read_nought hz
  unfold Ieee.Format.add
  rw [ht]
  exact sum_nought hw hf hp t

theorem sub_nought {u z : Nat} (hw : Wd u) (hf : fin u = true) (hp : part u = u) (hz : nought z = true) : D.sub u z = some u := by
  obtain ⟨t, ht⟩ := read_nought hz
  unfold Ieee.Format.sub
  rw [ht]
  exact sum_nought hw hf hp (!t)

theorem read_one : D.read 4607182418800017408 = .number false 4503599627370496 (-52) := by rfl

theorem mul_one' {u : Nat} (hw : Wd u) (hf : fin u = true) : D.mul u 4607182418800017408 = some u := by
  obtain ⟨m, i, hr, hm, hi, _, _, hg, h0⟩ := read_norm hf
  unfold Ieee.Format.mul
  rw [hr, read_one]
  simp only [Ieee.Datum.product, Option.map_some, Bool.xor_false, Option.some.injEq]
  rw [write_number]
  have := rung_shift m 52 i
  have e : m * 2 ^ 52 = m * 4503599627370496 := rfl
  rw [e] at this
  have e2 : i + -52 = i - ((52 : Nat) : Int) := rfl
  rw [e2, this, hg, word_self hw]

theorem mul_nought {u : Nat} (hf : fin u = true) : ∃ z, D.mul u 0 = some z ∧ nought z = true := by
  obtain ⟨m, i, hr, _⟩ := read_norm hf
  unfold Ieee.Format.mul
  rw [hr, read_zero]
  refine ⟨_, rfl, ?_⟩
  rw [write_number, nought_eq, decide_eq_true_eq, Nat.mul_zero]
  have : rungOf 0 (i + -1074) = 0 := by simp [rungOf]
  rw [this, word_rung (by omega)]

theorem sub_self' {u : Nat} (hf : fin u = true) : D.sub u u = some 0 := by
  obtain ⟨m, i, hr, _⟩ := read_norm hf
  unfold Ieee.Format.sub
  rw [hr]
  generalize (u / 9223372036854775808 % 2 == 1) = s
  have h0 : Ieee.signed s m (i - min i i).toNat + Ieee.signed (!s) m (i - min i i).toNat = 0 := by
    unfold Ieee.signed; cases s <;> simp <;> omega
  simp only [Ieee.Datum.opposite, Ieee.Datum.sum, Option.map_some, h0, if_true, Int.natAbs_zero, Option.some.injEq]
  rw [write_number]
  cases s <;> simp [rungOf, word_eq]

/-- A sound part. -/
structure Snd (u : Nat) : Prop where
  wd : Wd u
  fin : fin u = true
  part : part u = u

theorem cl_snd1 {a b : Nat} (h : Wd a) : Snd (cl1 a b) := ⟨cl_wd1 h, cl_fin1 a b, cl_part1 a b⟩
theorem cl_snd2 {a b : Nat} (h : Wd b) : Snd (cl2 a b) := ⟨cl_wd2 h, cl_fin2 a b, cl_part2 a b⟩
theorem cl_self1 {u v : Nat} (hu : Snd u) (hv : Snd v) : cl1 u v = u := by rw [cl_of1 hu.fin hv.fin, hu.part]
theorem cl_self2 {u v : Nat} (hu : Snd u) (hv : Snd v) : cl2 u v = v := by rw [cl_of2 hu.fin hv.fin, hv.part]
theorem clE_self {u v : Nat} (hu : Snd u) (hv : Snd v) : clE u v = 0 := by unfold clE fin2; rw [hu.fin, hv.fin]; rfl

theorem o_self {p q : Option Nat} {u v : Nat} (hp : p = some u) (hq : q = some v) (hu : Snd u) (hv : Snd v) : o1 p q = u ∧ o2 p q = v ∧ oE p q = 0 := by
  subst hp; subst hq
  exact ⟨cl_self1 hu hv, cl_self2 hu hv, clE_self hu hv⟩

theorem snd_zero : Snd 0 := ⟨wd_zero, rfl, rfl⟩

theorem mulP_comm (a b c d : Nat) : mulP c d a b = mulP a b c d := by unfold mulP; rw [mul_comm c a, mul_comm d b]
theorem mulQ_comm {a b c d : Nat} (ha : fin a = true) (hb : fin b = true) (hc : fin c = true) (hd : fin d = true) : mulQ c d a b = mulQ a b c d := by
  unfold mulQ
  rw [mul_comm c b, mul_comm d a]
  obtain ⟨p, hp⟩ := mul_some hb hc
  obtain ⟨q, hq⟩ := mul_some ha hd
  rw [hp, hq]
  exact add_comm p q

theorem mulP_one {u v : Nat} (hu : Snd u) (hv : Snd v) : mulP u v 4607182418800017408 0 = some u := by
  unfold mulP
  obtain ⟨z, hz, h0⟩ := mul_nought hv.fin
  rw [mul_one' hu.wd hu.fin, hz]
  exact sub_nought hu.wd hu.fin hu.part h0

theorem mulQ_one {u v : Nat} (hu : Snd u) (hv : Snd v) : mulQ u v 4607182418800017408 0 = some v := by
  unfold mulQ
  obtain ⟨z, hz, h0⟩ := mul_nought hu.fin
  rw [mul_one' hv.wd hv.fin, hz]
  show D.add z v = some v
  rw [add_comm]
  exact add_nought hv.wd hv.fin hv.part h0

end Go.Proofs.Ytglpdjkddekblab
