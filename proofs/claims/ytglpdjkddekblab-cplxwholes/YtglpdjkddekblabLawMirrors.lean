/- What the statement of mirrors does: a turned sign turns sums and products with it. -/
import Derived.Test.YtglpdjkddekblabLawLaws
set_option linter.unusedSimpArgs false
namespace Go.Proofs.Ytglpdjkddekblab

/-- Two words that are alike but for the sign, which is turned where e says so (a nought's sign does not count). -/
def Rel (e : Bool) (x y : Nat) : Prop := ∃ g h R, R ≤ 9218868437227405312 ∧ x = D.word g R ∧ y = D.word h R ∧ (R ≠ 0 → h = (g ^^ e))
def RelO (e : Bool) (p q : Option Nat) : Prop := (p = none ∧ q = none) ∨ ∃ x y, p = some x ∧ q = some y ∧ Rel e x y

/-- How a rung is read. -/
theorem read_word {R : Nat} (h : R ≤ 9218868437227405312) : (∃ m i, (m = 0 ↔ R = 0) ∧ ∀ g, D.read (D.word g R) = .number g m i) ∨ (R ≠ 0 ∧ ∀ g, D.read (D.word g R) = .infinity g) := by
  by_cases h1 : R < 4503599627370496
  · refine .inl ⟨R, -1074, Iff.rfl, fun g => ?_⟩
    rw [read_eq, word_sign (by omega), word_rung (by omega), if_pos h1]
  · by_cases h2 : R < 9218868437227405312
    · refine .inl ⟨4503599627370496 + R % 4503599627370496, -1074 + ((R / 4503599627370496 - 1 : Nat) : Int), by omega, fun g => ?_⟩
      rw [read_eq, word_sign (by omega), word_rung (by omega), if_neg h1, if_pos h2]
    · refine .inr ⟨by omega, fun g => ?_⟩
      rw [read_eq, word_sign (by omega), word_rung (by omega), if_neg h1, if_neg h2, if_pos (by omega)]

theorem rel_number (e g h : Bool) (m : Nat) (i : Int) (hs : m ≠ 0 → h = (g ^^ e)) : Rel e (D.write (.number g m i)) (D.write (.number h m i)) := by
  rw [write_number, write_number]
  refine ⟨g, h, _, rung_le m i, rfl, rfl, fun hr => hs fun hm => hr ?_⟩
  subst hm; simp [rungOf]

theorem write_inf (g : Bool) : D.write (.infinity g) = D.word g 9218868437227405312 := rfl
theorem rel_inf (e g h : Bool) (hs : h = (g ^^ e)) : Rel e (D.write (.infinity g)) (D.write (.infinity h)) :=
  ⟨g, h, _, Nat.le_refl _, write_inf g, write_inf h, fun _ => hs⟩

theorem signed_rel (e g h : Bool) (m k : Nat) (hs : m ≠ 0 → h = (g ^^ e)) : Ieee.signed h m k = if e then -Ieee.signed g m k else Ieee.signed g m k := by
  by_cases hm : m = 0
  · subst hm; unfold Ieee.signed; simp
  · rw [hs hm]; unfold Ieee.signed; cases g <;> cases e <;> simp

theorem rel_add {e : Bool} {x x' y y' : Nat} (hx : Rel e x x') (hy : Rel e y y') : RelO e (D.add x y) (D.add x' y') := by
  obtain ⟨g, g', R, hR, rfl, rfl, hg⟩ := hx
  obtain ⟨h, h', S, hS, rfl, rfl, hh⟩ := hy
  unfold Ieee.Format.add
  rcases read_word hR with ⟨m, i, hm, rm⟩ | ⟨hm, rm⟩ <;> rcases read_word hS with ⟨n, j, hn, rn⟩ | ⟨hn, rn⟩ <;> rw [rm, rm, rn, rn]
  · right
    refine ⟨_, _, rfl, rfl, ?_⟩
    have e1 := signed_rel e g g' m (i - min i j).toNat (fun k => hg (fun z => k (hm.2 z)))
    have e2 := signed_rel e h h' n (j - min i j).toNat (fun k => hh (fun z => k (hn.2 z)))
    rw [e1, e2]
    generalize Ieee.signed g m (i - min i j).toNat = A
    generalize Ieee.signed h n (j - min i j).toNat = B
    have e3 : ((if e then -A else A) + (if e then -B else B)).natAbs = (A + B).natAbs := by cases e <;> simp <;> omega
    rw [e3]
    refine rel_number e _ _ _ _ (fun hne => ?_)
    have h0 : ¬ A + B = 0 := by omega
    have h0' : ¬ (if e then -A else A) + (if e then -B else B) = 0 := by cases e <;> simp <;> omega
    rw [if_neg h0, if_neg h0']
    cases e
    · simp
    · simp only [if_true, Bool.xor_true, ← decide_not, decide_eq_decide]; omega
  · exact .inr ⟨_, _, rfl, rfl, rel_inf e h h' (hh hn)⟩
  · exact .inr ⟨_, _, rfl, rfl, rel_inf e g g' (hg hm)⟩
  · simp only [Ieee.Datum.sum]
    by_cases k : g = h
    · have k' : g' = h' := by rw [hg hm, hh hn, k]
      rw [if_pos k, if_pos k']
      exact .inr ⟨_, _, rfl, rfl, rel_inf e g g' (hg hm)⟩
    · have k' : ¬ g' = h' := by
        rw [hg hm, hh hn]
        intro z
        apply k
        cases g <;> cases h <;> cases e <;> simp_all
      rw [if_neg k, if_neg k']
      exact .inl ⟨rfl, rfl⟩

theorem sub_word {x h S : Nat} {b : Bool} (hS : S ≤ 9218868437227405312) (hh : h = D.word b S) : D.sub x h = D.add x (D.word (!b) S) := by
  subst hh
  unfold Ieee.Format.sub Ieee.Format.add
  rcases read_word hS with ⟨n, j, hn, rn⟩ | ⟨hn, rn⟩ <;> rw [rn, rn] <;> rfl

theorem rel_sub {e : Bool} {x x' y y' : Nat} (hx : Rel e x x') (hy : Rel e y y') : RelO e (D.sub x y) (D.sub x' y') := by
  obtain ⟨h, h', S, hS, k, k', hh⟩ := hy
  rw [sub_word hS k, sub_word hS k']
  refine rel_add hx ⟨!h, !h', S, hS, rfl, rfl, fun z => ?_⟩
  rw [hh z]; cases h <;> cases e <;> rfl

theorem rel_mul {e d : Bool} {x x' y y' : Nat} (hx : Rel e x x') (hy : Rel d y y') : RelO (e ^^ d) (D.mul x y) (D.mul x' y') := by
  obtain ⟨g, g', R, hR, rfl, rfl, hg⟩ := hx
  obtain ⟨h, h', S, hS, rfl, rfl, hh⟩ := hy
  have key : R ≠ 0 → S ≠ 0 → (g' ^^ h') = ((g ^^ h) ^^ (e ^^ d)) := by
    intro a b; rw [hg a, hh b]; cases g <;> cases h <;> cases e <;> cases d <;> rfl
  unfold Ieee.Format.mul
  rcases read_word hR with ⟨m, i, hm, rm⟩ | ⟨hm, rm⟩ <;> rcases read_word hS with ⟨n, j, hn, rn⟩ | ⟨hn, rn⟩ <;> rw [rm, rm, rn, rn]
  · refine .inr ⟨_, _, rfl, rfl, rel_number _ _ _ _ _ (fun hne => ?_)⟩
    refine key (fun z => hne ?_) (fun z => hne ?_)
    · rw [hm.2 z, Nat.zero_mul]
    · rw [hn.2 z, Nat.mul_zero]
  · simp only [Ieee.Datum.product]
    by_cases z : m = 0
    · rw [if_pos z, if_pos z]; exact .inl ⟨rfl, rfl⟩
    · rw [if_neg z, if_neg z]
      refine .inr ⟨_, _, rfl, rfl, rel_inf _ _ _ ?_⟩
      have := key (fun q => z (hm.2 q)) hn
      rw [Bool.xor_comm h' g', Bool.xor_comm h g]; exact this
  · simp only [Ieee.Datum.product]
    by_cases z : n = 0
    · rw [if_pos z, if_pos z]; exact .inl ⟨rfl, rfl⟩
    · rw [if_neg z, if_neg z]
      exact .inr ⟨_, _, rfl, rfl, rel_inf _ _ _ (key hm (fun q => z (hn.2 q)))⟩
  · exact .inr ⟨_, _, rfl, rfl, rel_inf _ _ _ (key hm hn)⟩

theorem ng_word {g : Bool} {R : Nat} (h : R < 9223372036854775808) : ng (D.word g R) = D.word (!g) R := by
  have hw : Wd (D.word g R) := by unfold Wd; rw [word_eq]; cases g <;> simp <;> omega
  rw [ng_eq hw, word_eq, word_eq]
  cases g <;> simp only [Bool.false_eq_true, if_false, if_true, Bool.not_false, Bool.not_true]
  · rw [if_pos h]; omega
  · rw [if_neg (by omega)]; omega

theorem rel_self {u : Nat} (hu : Snd u) : Rel false u u := by
  have hf := hu.fin
  rw [fin_eq, decide_eq_true_eq] at hf
  exact ⟨_, _, _, by omega, (word_self hu.wd).symm, (word_self hu.wd).symm, fun _ => by simp⟩

theorem rel_turn {v : Nat} (hv : Snd v) : Rel true v (part (ng v)) := by
  have hf := hv.fin
  rw [fin_eq, decide_eq_true_eq] at hf
  cases hn : nought v with
  | true =>
    have e : v = 0 := by rw [← hv.part]; exact part_of_nought hn
    subst e
    exact ⟨false, false, 0, by omega, rfl, rfl, fun h => absurd rfl h⟩
  | false =>
    have h1 : nought (ng v) = false := by rw [nought_ng hv.wd]; exact hn
    rw [part_of_not h1]
    have hs := word_self hv.wd
    have hg := ng_word (g := (v / 9223372036854775808 % 2 == 1)) (R := v % 9223372036854775808) (by omega)
    rw [hs] at hg
    exact ⟨_, _, _, by omega, hs.symm, hg, fun _ => by simp⟩

theorem rel_fin {e : Bool} {x y : Nat} (h : Rel e x y) : fin y = fin x := by
  obtain ⟨g, k, R, hR, rfl, rfl, _⟩ := h
  rw [fin_eq, fin_eq, word_rung (by omega), word_rung (by omega)]

theorem rel_wd {e : Bool} {x y : Nat} (h : Rel e x y) : Wd x := by
  obtain ⟨g, k, R, hR, rfl, rfl, _⟩ := h
  unfold Wd; rw [word_eq]; cases g <;> simp <;> omega

theorem rel_part_same {x y : Nat} (h : Rel false x y) : part y = part x := by
  obtain ⟨g, k, R, hR, rfl, rfl, hs⟩ := h
  by_cases hz : R = 0
  · subst hz
    rw [part_of_nought (by rw [nought_eq, word_rung (by omega)]; rfl), part_of_nought (by rw [nought_eq, word_rung (by omega)]; rfl)]
  · rw [hs hz, Bool.xor_false]

theorem rel_part_turn {x y : Nat} (h : Rel true x y) : part y = part (ng (part x)) := by
  obtain ⟨g, k, R, hR, rfl, rfl, hs⟩ := h
  by_cases hz : R = 0
  · subst hz
    rw [part_of_nought (by rw [nought_eq, word_rung (by omega)]; rfl), part_of_nought (x := D.word g 0) (by rw [nought_eq, word_rung (by omega)]; rfl)]
    rfl
  · have hn : ∀ g, nought (D.word g R) = false := by
      intro g; rw [nought_eq, word_rung (by omega), decide_eq_false_iff_not]; exact hz
    rw [hs hz, Bool.xor_true, part_of_not (hn (!g)), part_of_not (hn g), ng_word (by omega), part_of_not (hn (!g))]

/-- The mirror of what is made sound. -/
theorem conj_o {P P' Q Q' : Option Nat} (hP : RelO false P P') (hQ : RelO true Q Q') :
    oE P' Q' = oE P Q ∧ (oE P Q = 0 → cl1 (cl1 (o1 P Q) (o2 P Q)) (ng (cl2 (o1 P Q) (o2 P Q))) = o1 P' Q' ∧ cl2 (cl1 (o1 P Q) (o2 P Q)) (ng (cl2 (o1 P Q) (o2 P Q))) = o2 P' Q') := by
  rcases hP with ⟨rfl, rfl⟩ | ⟨x, x', rfl, rfl, hx⟩
  · exact ⟨rfl, fun h => by cases h⟩
  · rcases hQ with ⟨rfl, rfl⟩ | ⟨y, y', rfl, rfl, hy⟩
    · exact ⟨rfl, fun h => by cases h⟩
    · have fx := rel_fin hx
      have fy := rel_fin hy
      simp only [o1, o2, oE]
      cases hf : fin2 x y with
      | false =>
        have hf' : fin2 x' y' = false := by unfold fin2 at hf ⊢; rw [fx, fy]; exact hf
        unfold clE
        rw [hf, hf']
        exact ⟨rfl, fun h => by cases h⟩
      | true =>
        have hf' : fin2 x' y' = true := by unfold fin2 at hf ⊢; rw [fx, fy]; exact hf
        unfold fin2 at hf hf'
        rw [Bool.and_eq_true] at hf hf'
        refine ⟨by unfold clE fin2; rw [hf.1, hf.2, hf'.1, hf'.2], fun _ => ?_⟩
        have wy := part_wd (rel_wd hy)
        have fng : fin (ng (part y)) = true := by rw [fin_ng wy]; exact fin_part hf.2
        rw [cl_of1 hf.1 hf.2, cl_of2 hf.1 hf.2, cl_of1 hf'.1 hf'.2, cl_of2 hf'.1 hf'.2, cl_of1 (fin_part hf.1) (fin_part hf.2), cl_of2 (fin_part hf.1) (fin_part hf.2), part_part, part_part]
        rw [cl_of1 (fin_part hf.1) fng, cl_of2 (fin_part hf.1) fng, part_part]
        exact ⟨(rel_part_same hx).symm, (rel_part_turn hy).symm⟩

theorem bne_or {x : Int} {p : Prop} (h : x = 0 → p) : (x != 0) = true ∨ (x != 0) = false ∧ p := by
  by_cases e : x = 0
  · exact .inr ⟨by simpa using e, h e⟩
  · exact .inl (by simpa using e)

theorem o_wd {e d : Bool} {P P' Q Q' : Option Nat} (hP : RelO e P P') (hQ : RelO d Q Q') : Wd (o1 P Q) ∧ Wd (o2 P Q) := by
  rcases hP with ⟨rfl, rfl⟩ | ⟨x, x', rfl, rfl, hx⟩
  · exact ⟨wd_zero, wd_zero⟩
  · rcases hQ with ⟨rfl, rfl⟩ | ⟨y, y', rfl, rfl, hy⟩
    · exact ⟨wd_zero, wd_zero⟩
    · exact ⟨cl_wd1 (rel_wd hx), cl_wd2 (rel_wd hy)⟩

theorem relO_bind {e : Bool} {x x' y y' : Nat} {p p' q q' : Option Nat} (hx : p = some x) (hx' : p' = some x') (hy : q = some y) (hy' : q' = some y') (f : Nat → Nat → Option Nat) (h : RelO e (f x y) (f x' y')) :
    RelO e (p.bind fun a => q.bind fun b => f a b) (p'.bind fun a => q'.bind fun b => f a b) := by
  subst hx; subst hx'; subst hy; subst hy'; exact h

theorem rel_some {e : Bool} {p q : Option Nat} {x : Nat} (h : RelO e p q) (hp : p = some x) : ∃ y, q = some y ∧ Rel e x y := by
  rcases h with ⟨rfl, _⟩ | ⟨a, b, rfl, rfl, hr⟩
  · cases hp
  · cases hp; exact ⟨b, rfl, hr⟩

theorem mirror_mul {u v s t v' t' : Nat} (hu : Snd u) (hv : Snd v) (hs : Snd s) (ht : Snd t) (rv : Rel true v v') (rt : Rel true t t') :
    RelO false (mulP u v s t) (mulP u v' s t') ∧ RelO true (mulQ u v s t) (mulQ u v' s t') := by
  obtain ⟨p, hp⟩ := mul_some hu.fin hs.fin
  obtain ⟨q, hq⟩ := mul_some hv.fin ht.fin
  obtain ⟨r, hr⟩ := mul_some hu.fin ht.fin
  obtain ⟨k, hk⟩ := mul_some hv.fin hs.fin
  obtain ⟨p', hp', rp⟩ := rel_some (rel_mul (rel_self hu) (rel_self hs)) hp
  obtain ⟨q', hq', rq⟩ := rel_some (rel_mul rv rt) hq
  obtain ⟨r', hr', rr⟩ := rel_some (rel_mul (rel_self hu) rt) hr
  obtain ⟨k', hk', rk⟩ := rel_some (rel_mul rv (rel_self hs)) hk
  exact ⟨relO_bind hp hp' hq hq' _ (rel_sub rp rq), relO_bind hr hr' hk hk' _ (rel_add rr rk)⟩

theorem mirror_add {u v s t v' t' : Nat} (hu : Snd u) (hs : Snd s) (rv : Rel true v v') (rt : Rel true t t') :
    RelO false (D.add u s) (D.add u s) ∧ RelO true (D.add v t) (D.add v' t') :=
  ⟨rel_add (rel_self hu) (rel_self hs), rel_add rv rt⟩

end Go.Proofs.Ytglpdjkddekblab
