/- Whole numbers below 2^53 as float64: sums, differences and products of them are those of the numbers, but for a nought's sign. -/
import Derived.Test.YtglpdjkddekblabLawMirrors
set_option linter.unusedSimpArgs false
namespace Go.Proofs.Ytglpdjkddekblab

/-- A whole number as a word. -/
def F (n : Int) : Nat := floatOfInt .f64 n

theorem F_eq (n : Int) : F n = D.word (decide (n < 0)) (rungOf n.natAbs 0) := write_number _ _ _

theorem F_zero : F 0 = 0 := by rfl

/-- How a whole number that is not nought stands: its rung. -/
theorem rung_int {a : Nat} (h0 : a ≠ 0) (h : a < 9007199254740992) : ∃ k m : Nat, k ≤ 52 ∧ m = a * 2 ^ k ∧ 4503599627370496 ≤ m ∧ m < 9007199254740992 ∧ rungOf a 0 = (1074 - k) * 4503599627370496 + m := by
  have hl : a.log2 < 53 := (Nat.log2_lt h0).2 (by omega)
  have h1 := Nat.log2_self_le h0
  have h2 : a < 2 ^ (a.log2 + 1) := Nat.lt_log2_self
  have hk : a.log2 + (52 - a.log2) = 52 := by omega
  have hlo : 4503599627370496 ≤ a * 2 ^ (52 - a.log2) := by
    have : 2 ^ a.log2 * 2 ^ (52 - a.log2) ≤ a * 2 ^ (52 - a.log2) := Nat.mul_le_mul_right _ h1
    rw [← Nat.pow_add, hk] at this
    exact this
  have hhi : a * 2 ^ (52 - a.log2) < 9007199254740992 := by
    have : a * 2 ^ (52 - a.log2) < 2 ^ (a.log2 + 1) * 2 ^ (52 - a.log2) := Nat.mul_lt_mul_of_pos_right h2 (Nat.two_pow_pos _)
    rw [← Nat.pow_add, show a.log2 + 1 + (52 - a.log2) = 53 by omega] at this
    exact this
  refine ⟨52 - a.log2, a * 2 ^ (52 - a.log2), by omega, rfl, hlo, hhi, ?_⟩
  have hs := rung_shift a (52 - a.log2) 0
  rw [← hs, rung_norm _ _ hhi (by omega) (.inr hlo), if_neg (by omega)]
  have e : (0 - ((52 - a.log2 : Nat) : Int) - -1074).toNat = 1074 - (52 - a.log2) := by omega
  rw [e]
  generalize a * 2 ^ (52 - a.log2) = m at *
  omega

theorem F_rung {n : Int} (h : n.natAbs < 9007199254740992) : rungOf n.natAbs 0 < 9218868437227405312 ∧ (rungOf n.natAbs 0 = 0 ↔ n = 0) := by
  by_cases h0 : n = 0
  · subst h0
    have : rungOf (0 : Int).natAbs 0 = 0 := by rfl
    rw [this]; exact ⟨by omega, by simp⟩
  · obtain ⟨k, m, hk, _, h1, h2, hr⟩ := rung_int (a := n.natAbs) (by omega) h
    rw [hr]
    exact ⟨by omega, by omega⟩

/-- What is read of a whole number's word. -/
theorem F_read {n : Int} (h : n.natAbs < 9007199254740992) : ∃ k : Nat, D.read (F n) = .number (decide (n < 0)) (n.natAbs * 2 ^ k) (0 - (k : Int)) := by
  by_cases h0 : n = 0
  · subst h0
    obtain ⟨k, hk⟩ : ∃ k : Nat, k = 1074 := ⟨_, rfl⟩
    refine ⟨k, ?_⟩
    rw [F_zero, read_zero, Int.natAbs_zero, Nat.zero_mul, hk]
    rfl
  · obtain ⟨k, m, hk, hm, h1, h2, hr⟩ := rung_int (a := n.natAbs) (by omega) h
    refine ⟨k, ?_⟩
    rw [F_eq, hr, ← hm, read_eq, word_sign (by omega), word_rung (by omega), if_neg (by omega), if_pos (by omega)]
    have e1 : 4503599627370496 + ((1074 - k) * 4503599627370496 + m) % 4503599627370496 = m := by omega
    have e2 : (-1074 : Int) + ((((1074 - k) * 4503599627370496 + m) / 4503599627370496 - 1 : Nat) : Int) = 0 - (k : Int) := by omega
    rw [e1, e2]

theorem F_snd {n : Int} (h : n.natAbs < 9007199254740992) : Snd (F n) := by
  obtain ⟨h1, h2⟩ := F_rung h
  refine ⟨wd_of_int n, ?_, ?_⟩
  · rw [F_eq, fin_eq, word_rung (by omega), decide_eq_true_eq]; exact h1
  · by_cases h0 : n = 0
    · subst h0; rfl
    · refine part_of_not ?_
      rw [F_eq, nought_eq, word_rung (by omega), decide_eq_false_iff_not]
      exact fun e => h0 (h2.1 e)

/-- A word that is a whole number's, but for a nought's sign. -/
def IsF (n : Int) (x : Nat) : Prop := n.natAbs < 9007199254740992 ∧ Rel false (F n) x

theorem isF_self {n : Int} (h : n.natAbs < 9007199254740992) : IsF n (F n) := ⟨h, rel_self (F_snd h)⟩

theorem F_add {a c : Int} (ha : a.natAbs < 9007199254740992) (hc : c.natAbs < 9007199254740992) : D.add (F a) (F c) = some (F (a + c)) := by
  obtain ⟨k, hk⟩ := F_read ha
  obtain ⟨l, hl⟩ := F_read hc
  unfold Ieee.Format.add
  rw [hk, hl]
  have eb : min (0 - (k : Int)) (0 - (l : Int)) = 0 - ((max k l : Nat) : Int) := by omega
  have s1 : Ieee.signed (decide (a < 0)) (a.natAbs * 2 ^ k) (0 - (k : Int) - (0 - ((max k l : Nat) : Int))).toNat = a * (2 ^ max k l : Nat) := by
    have e : (0 - (k : Int) - (0 - ((max k l : Nat) : Int))).toNat = max k l - k := by omega
    unfold Ieee.signed
    rw [e, Nat.shiftLeft_eq, Nat.mul_assoc, ← Nat.pow_add, show k + (max k l - k) = max k l by omega]
    generalize 2 ^ max k l = p
    by_cases hs : a < 0
    · rw [if_pos (by simpa using hs), show a = -(a.natAbs : Int) by omega]
      simp only [Int.natAbs_neg, Int.natAbs_natCast, Int.natCast_mul, Int.neg_mul]
    · rw [if_neg (by simpa using hs), show a = (a.natAbs : Int) by omega]
      simp only [Int.natAbs_natCast, Int.natCast_mul]
  have s2 : Ieee.signed (decide (c < 0)) (c.natAbs * 2 ^ l) (0 - (l : Int) - (0 - ((max k l : Nat) : Int))).toNat = c * (2 ^ max k l : Nat) := by
    have e : (0 - (l : Int) - (0 - ((max k l : Nat) : Int))).toNat = max k l - l := by omega
    unfold Ieee.signed
    rw [e, Nat.shiftLeft_eq, Nat.mul_assoc, ← Nat.pow_add, show l + (max k l - l) = max k l by omega]
    generalize 2 ^ max k l = p
    by_cases hs : c < 0
    · rw [if_pos (by simpa using hs), show c = -(c.natAbs : Int) by omega]
      simp only [Int.natAbs_neg, Int.natAbs_natCast, Int.natCast_mul, Int.neg_mul]
    · rw [if_neg (by simpa using hs), show c = (c.natAbs : Int) by omega]
      simp only [Int.natAbs_natCast, Int.natCast_mul]
  simp only [Ieee.Datum.sum, eb, s1, s2, Option.map_some, Option.some.injEq, ← Int.add_mul]
  have hp : 0 < 2 ^ max k l := Nat.two_pow_pos _
  rw [write_number, F_eq, Int.natAbs_mul, Int.natAbs_natCast, rung_shift]
  congr 1
  by_cases hz : a + c = 0
  · rw [hz, Int.zero_mul, if_pos rfl]
    simp only [Int.lt_irrefl, decide_false, Bool.and_eq_false_iff, decide_eq_false_iff_not]
    omega
  · have hp' : (0 : Int) < ((2 ^ max k l : Nat) : Int) := by omega
    have hne : ¬ (a + c) * ((2 ^ max k l : Nat) : Int) = 0 := by
      intro e; rcases Int.mul_eq_zero.1 e with e | e <;> omega
    rw [if_neg hne, decide_eq_decide]
    constructor
    · intro h
      rcases Int.lt_or_le (a + c) 0 with g | g
      · exact g
      · have := Int.mul_nonneg g (Int.le_of_lt hp'); omega
    · intro h; exact Int.mul_neg_of_neg_of_pos h hp'

theorem F_mul {a c : Int} (ha : a.natAbs < 9007199254740992) (hc : c.natAbs < 9007199254740992) (hp : (a * c).natAbs < 9007199254740992) : ∃ r, D.mul (F a) (F c) = some r ∧ IsF (a * c) r := by
  obtain ⟨k, hk⟩ := F_read ha
  obtain ⟨l, hl⟩ := F_read hc
  unfold Ieee.Format.mul
  rw [hk, hl]
  refine ⟨_, rfl, hp, ?_⟩
  have e1 : a.natAbs * 2 ^ k * (c.natAbs * 2 ^ l) = (a * c).natAbs * 2 ^ (k + l) := by
    rw [Int.natAbs_mul, Nat.pow_add, Nat.mul_mul_mul_comm]
  have e2 : (0 - (k : Int) + (0 - (l : Int))) = 0 - ((k + l : Nat) : Int) := by omega
  rw [e1, e2, write_number, rung_shift, F_eq]
  refine ⟨_, _, _, Nat.le_of_lt (F_rung hp).1, rfl, rfl, fun hne => ?_⟩
  have hac : a * c ≠ 0 := fun e => hne ((F_rung hp).2.2 e)
  have ha0 : a ≠ 0 := fun e => hac (by rw [e, Int.zero_mul])
  have hc0 : c ≠ 0 := fun e => hac (by rw [e, Int.mul_zero])
  rw [Bool.xor_false]
  rcases Int.lt_or_gt_of_ne ha0 with h1 | h1 <;> rcases Int.lt_or_gt_of_ne hc0 with h2 | h2
  · have : 0 < a * c := Int.mul_pos_of_neg_of_neg h1 h2
    rw [decide_eq_true h1, decide_eq_true h2, decide_eq_false (by omega)]; rfl
  · have : a * c < 0 := Int.mul_neg_of_neg_of_pos h1 h2
    rw [decide_eq_true h1, decide_eq_false (by omega), decide_eq_true this]; rfl
  · have : a * c < 0 := Int.mul_neg_of_pos_of_neg h1 h2
    rw [decide_eq_true h2, decide_eq_false (by omega), decide_eq_true this]; rfl
  · have : 0 < a * c := Int.mul_pos h1 h2
    rw [decide_eq_false (by omega), decide_eq_false (by omega), decide_eq_false (by omega)]; rfl

theorem rel_trans {x y z : Nat} (h : Rel false x y) (k : Rel false y z) : Rel false x z := by
  obtain ⟨g, h, R, hR, rfl, rfl, hg⟩ := h
  obtain ⟨g', h', R', hR', e, rfl, hg'⟩ := k
  have er : R' = R := by
    have := congrArg (· % 9223372036854775808) e
    simp only [word_rung (show R < 9223372036854775808 by omega), word_rung (show R' < 9223372036854775808 by omega)] at this
    exact this.symm
  subst er
  have es : g' = h := by
    have := congrArg (fun x => (x / 9223372036854775808 % 2 == 1)) e
    simp only [word_sign (show R' < 9223372036854775808 by omega)] at this
    exact this.symm
  subst es
  exact ⟨g, h', R', hR, rfl, rfl, fun z => by rw [hg' z, hg z]; simp⟩

theorem isF_add {a c : Int} {x y : Nat} (hx : IsF a x) (hy : IsF c y) (h : (a + c).natAbs < 9007199254740992) : ∃ r, D.add x y = some r ∧ IsF (a + c) r := by
  obtain ⟨r, hr, hrel⟩ := rel_some (rel_add hx.2 hy.2) (F_add hx.1 hy.1)
  exact ⟨r, hr, h, hrel⟩

theorem F_neg {c : Int} (h : c.natAbs < 9007199254740992) : part (ng (F c)) = F (-c) := by
  by_cases h0 : c = 0
  · subst h0; rfl
  · obtain ⟨h1, h2⟩ := F_rung h
    have hn : nought (ng (F c)) = false := by
      rw [nought_ng (F_snd h).wd, F_eq, nought_eq, word_rung (by omega), decide_eq_false_iff_not]
      exact fun e => h0 (h2.1 e)
    rw [part_of_not hn, F_eq, F_eq, ng_word (by omega), Int.natAbs_neg]
    congr 1
    rw [← decide_not, decide_eq_decide]; omega

theorem isF_sub {a c : Int} {x y : Nat} (hx : IsF a x) (hy : IsF c y) (h : (a - c).natAbs < 9007199254740992) : ∃ r, D.sub x y = some r ∧ IsF (a - c) r := by
  obtain ⟨hc, g, k, S, hS, e1, e2, hs⟩ := hy
  rw [sub_word hS e2]
  have hn : IsF (-c) (D.word (!k) S) := by
    refine ⟨by omega, ?_⟩
    have ht := rel_turn (F_snd hc)
    rw [F_neg hc] at ht
    obtain ⟨g2, k2, S2, hS2, f1, f2, hs2⟩ := ht
    have hw := e1
    rw [f1] at hw
    have er : S2 = S := by
      have := congrArg (· % 9223372036854775808) hw
      simp only [word_rung (show S < 9223372036854775808 by omega), word_rung (show S2 < 9223372036854775808 by omega)] at this
      exact this
    subst er
    have es : g2 = g := by
      have := congrArg (fun x => (x / 9223372036854775808 % 2 == 1)) hw
      simp only [word_sign (show S2 < 9223372036854775808 by omega)] at this
      exact this
    subst es
    rw [f2]
    exact ⟨k2, !k, S2, hS, rfl, rfl, fun z => by rw [hs z, hs2 z]; simp⟩
  obtain ⟨r, hr, hF⟩ := isF_add hx hn (by rw [← Int.sub_eq_add_neg]; exact h)
  exact ⟨r, hr, by rw [Int.sub_eq_add_neg]; exact hF⟩

theorem isF_mul {a c : Int} {x y : Nat} (hx : IsF a x) (hy : IsF c y) (h : (a * c).natAbs < 9007199254740992) : ∃ r, D.mul x y = some r ∧ IsF (a * c) r := by
  obtain ⟨p, hp, hF⟩ := F_mul hx.1 hy.1 h
  obtain ⟨r, hr, hrel⟩ := rel_some (rel_mul hx.2 hy.2) hp
  exact ⟨r, hr, h, rel_trans hF.2 hrel⟩

theorem isF_part {a : Int} {x : Nat} (h : IsF a x) : part x = F a := by
  rw [rel_part_same h.2]; exact (F_snd h.1).part

theorem isF_fin {a : Int} {x : Nat} (h : IsF a x) : fin x = true := by
  rw [rel_fin h.2]; exact (F_snd h.1).fin

theorem isF_o {a b : Int} {P Q : Option Nat} {x y : Nat} (hP : P = some x) (hQ : Q = some y) (hx : IsF a x) (hy : IsF b y) : o1 P Q = F a ∧ o2 P Q = F b ∧ oE P Q = 0 := by
  subst hP; subst hQ
  refine ⟨?_, ?_, ?_⟩
  · show cl1 x y = _; rw [cl_of1 (isF_fin hx) (isF_fin hy), isF_part hx]
  · show cl2 x y = _; rw [cl_of2 (isF_fin hx) (isF_fin hy), isF_part hy]
  · show clE x y = _; unfold clE fin2; rw [isF_fin hx, isF_fin hy]; rfl

/-- A product of two numbers with whole parts. -/
theorem F_mulPQ {a b c d : Int} (ha : a.natAbs < 9007199254740992) (hb : b.natAbs < 9007199254740992) (hc : c.natAbs < 9007199254740992) (hd : d.natAbs < 9007199254740992)
    (h1 : (a * c).natAbs < 9007199254740992) (h2 : (b * d).natAbs < 9007199254740992) (h3 : (a * d).natAbs < 9007199254740992) (h4 : (b * c).natAbs < 9007199254740992)
    (h5 : (a * c - b * d).natAbs < 9007199254740992) (h6 : (a * d + b * c).natAbs < 9007199254740992) :
    o1 (mulP (F a) (F b) (F c) (F d)) (mulQ (F a) (F b) (F c) (F d)) = F (a * c - b * d) ∧ o2 (mulP (F a) (F b) (F c) (F d)) (mulQ (F a) (F b) (F c) (F d)) = F (a * d + b * c) ∧ oE (mulP (F a) (F b) (F c) (F d)) (mulQ (F a) (F b) (F c) (F d)) = 0 := by
  obtain ⟨p, hp, fp⟩ := F_mul ha hc h1
  obtain ⟨q, hq, fq⟩ := F_mul hb hd h2
  obtain ⟨r, hr, fr⟩ := F_mul ha hd h3
  obtain ⟨s, hs, fs⟩ := F_mul hb hc h4
  obtain ⟨x, hx, fx⟩ := isF_sub fp fq h5
  obtain ⟨y, hy, fy⟩ := isF_add fr fs h6
  exact isF_o (by unfold mulP; rw [hp, hq]; exact hx) (by unfold mulQ; rw [hr, hs]; exact hy) fx fy

/-- What is divided by itself is one. -/
theorem div_self' {n : Nat} (hf : fin n = true) (h0 : nought n = false) : D.div n n = some 4607182418800017408 := by
  obtain ⟨m, i, hr, hm, _, _, _, _, hz⟩ := read_norm hf
  rw [nought_eq, decide_eq_false_iff_not] at h0
  have hm0 : m ≠ 0 := fun e => h0 (hz.1 e)
  unfold Ieee.Format.div
  rw [hr]
  have e1 : D.fractionBits + 2 + m.log2 - m.log2 = 54 := by
    have : D.fractionBits = 52 := rfl
    omega
  simp only [Ieee.Datum.quotient, hm0, if_false, e1, Option.map_some, Bool.xor_self, Nat.shiftLeft_eq, Nat.mul_mod_right, Nat.mul_mod_right, Option.some.injEq]
  rw [Nat.mul_div_cancel_left _ (by omega), show i - i - ((54 : Nat) : Int) - 1 = -55 by omega]
  rfl

theorem div_zero' {n : Nat} (hf : fin n = true) (h0 : nought n = false) : ∃ z, D.div 0 n = some z ∧ nought z = true := by
  obtain ⟨m, i, hr, hm, _, _, _, _, hz⟩ := read_norm hf
  rw [nought_eq, decide_eq_false_iff_not] at h0
  have hm0 : m ≠ 0 := fun e => h0 (hz.1 e)
  unfold Ieee.Format.div
  rw [hr, read_zero]
  simp only [Ieee.Datum.quotient, hm0, if_false, Option.map_some, Nat.zero_shiftLeft, Nat.zero_div, Nat.zero_mod, Nat.mul_zero]
  refine ⟨_, rfl, ?_⟩
  rw [write_number, nought_eq, decide_eq_true_eq]
  have : ∀ j, rungOf (0 + (0 != 0).toNat) j = 0 := fun j => by simp [rungOf]
  rw [this, word_rung (by omega)]

theorem F_quo {c d : Int} (hc : c.natAbs < 9007199254740992) (hd : d.natAbs < 9007199254740992)
    (h1 : (c * c).natAbs < 9007199254740992) (h2 : (d * d).natAbs < 9007199254740992) (h3 : (c * c + d * d).natAbs < 9007199254740992) (h4 : (c * d).natAbs < 9007199254740992) (hn : c * c + d * d ≠ 0) :
    q1 (F c) (F d) (F c) (F d) = F 1 ∧ q2 (F c) (F d) (F c) (F d) = F 0 ∧ qE (F c) (F d) (F c) (F d) = 0 := by
  obtain ⟨p, hp, fp⟩ := F_mul hc hc h1
  obtain ⟨q, hq, fq⟩ := F_mul hd hd h2
  obtain ⟨r, hr, fr⟩ := F_mul hc hd h4
  obtain ⟨n, hN, fn⟩ := isF_add fp fq h3
  have hsq : sqN (F c) (F d) = some n := by unfold sqN; rw [hp, hq]; exact hN
  have hfin := isF_fin fn
  have hnn : nought n = false := by
    cases h : nought n with
    | false => rfl
    | true =>
      have e := part_of_nought h
      rw [isF_part fn] at e
      have := (F_rung h3).2
      rw [F_eq] at e
      have e2 := congrArg (· % 9223372036854775808) e
      simp only [word_rung (show rungOf (c * c + d * d).natAbs 0 < 9223372036854775808 by have := (F_rung h3).1; omega)] at e2
      exact absurd (this.1 e2) hn
  have hz : (nought (F c) && nought (F d)) = false := by
    cases h : (nought (F c) && nought (F d)) with
    | false => rfl
    | true =>
      rw [Bool.and_eq_true] at h
      have k : ∀ x : Int, x.natAbs < 9007199254740992 → nought (F x) = true → x = 0 := by
        intro x hx hx0
        rw [F_eq, nought_eq, word_rung (by have := (F_rung hx).1; omega), decide_eq_true_eq] at hx0
        exact (F_rung hx).2.1 hx0
      rw [k c hc h.1, k d hd h.2] at hn
      exact absurd rfl hn
  have hbad : badN n = false := by unfold badN; rw [hnn, hfin]; rfl
  have hP : divP (F c) (F d) (F c) (F d) n = some 4607182418800017408 := by
    unfold divP
    rw [hp, hq]
    show (D.add p q).bind _ = _
    rw [hN]
    exact div_self' hfin hnn
  obtain ⟨z, hz0, hzn⟩ := div_zero' hfin hnn
  have hQ : divQ (F c) (F d) (F c) (F d) n = some z := by
    unfold divQ
    rw [mul_comm (F d) (F c), hr]
    show (D.sub r r).bind _ = _
    rw [sub_self' (isF_fin fr)]
    exact hz0
  have fz : fin z = true := by rw [nought_eq, decide_eq_true_eq] at hzn; rw [fin_eq, decide_eq_true_eq]; omega
  have hz' : ¬ (nought (F c) && nought (F d)) = true := by rw [hz]; decide
  refine ⟨?_, ?_, ?_⟩
  · unfold q1; rw [if_neg hz', hsq]; simp only [hbad, Bool.false_eq_true, if_false, hP, hQ, o1]
    rw [cl_of1 (by rfl) fz]; rfl
  · unfold q2; rw [if_neg hz', hsq]; simp only [hbad, Bool.false_eq_true, if_false, hP, hQ, o2]
    rw [cl_of2 (by rfl) fz, part_of_nought hzn]; rfl
  · unfold qE; rw [if_neg hz', hsq]; simp only [hbad, Bool.false_eq_true, if_false, hP, hQ, oE]
    unfold clE fin2; rw [fz]; rfl

end Go.Proofs.Ytglpdjkddekblab
