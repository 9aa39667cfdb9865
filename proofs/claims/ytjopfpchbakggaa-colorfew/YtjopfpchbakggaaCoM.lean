/- What the law ColorApart asks of what is given, in plain words. -/
import Derived.Test.YtjopfpchbakggaaCoH
set_option linter.unusedSimpArgs false
set_option linter.unusedVariables false
namespace Go.Proofs.Ytjopfpchbakggaa
open Go.RowKit

/-- The most that have a position in common where one of the first i begins. -/
def cMost (L : List Iv) : Nat → Nat
  | 0 => 0
  | i + 1 => max (cMost L i) (cSame L i L.length)
theorem cMost_le (L : List Iv) (n : Nat) : ∀ i, (∀ q, q < i → cSame L q L.length ≤ n) → cMost L i ≤ n
  | 0, _ => Nat.zero_le _
  | i + 1, h => by
    have h1 := cMost_le L n i (fun q hq => h q (by omega))
    have h2 := h i (by omega)
    rw [cMost]
    omega
theorem cMost_ge (L : List Iv) {q : Nat} : ∀ {i : Nat}, q < i → cSame L q L.length ≤ cMost L i
  | 0, h => by omega
  | i + 1, h => by
    rw [cMost]
    by_cases e : q = i
    · subst e; omega
    · have := cMost_ge L (q := q) (i := i) (by omega)
      omega
theorem cSame_le (L : List Iv) (q : Nat) : ∀ j, cSame L q j ≤ j
  | 0 => Nat.le_refl _
  | j + 1 => by
    have := cSame_le L q j
    rw [cSame]
    split <;> omega
theorem cMost_bd (L : List Iv) (i : Nat) : cMost L i ≤ L.length := cMost_le L _ i (fun q _ => cSame_le L q _)
theorem cntS_pl {L : List Iv} {o : List (Option Nat × Option Nat)} : ∀ i, i ≤ o.length → o.length = L.length → cntS (plT L o) i = ((o.take i).filter (fun z => z.2.isSome)).length
  | 0, _, _ => rfl
  | i + 1, h, hl => by
    obtain ⟨z, hz⟩ : ∃ z, o[i]? = some z := ⟨_, List.getElem?_eq_getElem (by omega)⟩
    have hr : rwA (plT L o) i = ((ivA L i).r, oI z.1, oI z.2) := by
      unfold rwA
      rw [plT_at (by omega), hz]
      rfl
    rw [cntS, cntS_pl i (by omega) hl, hr, List.take_add_one, hz, List.filter_append, List.length_append]
    congr 1
    cases hz2 : z.2 with
    | none => simp [oI, hz2]
    | some t =>
      have : (0 : Int) ≤ (t : Int) := by omega
      simp [oI, hz2, this]
theorem cnt_all {L : List Iv} {n : Nat} {c : CS} (A : CAns L n c) : cntS (plT L c.o) L.length = c.n := by
  rw [cntS_pl L.length (by rw [A.len]; omega) A.len, ← A.cnt, List.take_of_length_le (by rw [A.len]; omega)]
theorem most_yes {L : List Iv} {n : Nat} {c : CS} (A : CAns L n c) (h : 0 < cntS (plT L c.o) L.length) : n < cMost L L.length := by
  rw [cnt_all A] at h
  obtain ⟨q, h1, h2⟩ := A.yes h
  exact Nat.lt_of_lt_of_le h2 (cMost_ge L h1)
theorem most_no {L : List Iv} {n : Nat} {c : CS} (A : CAns L n c) (h : cntS (plT L c.o) L.length = 0) : cMost L L.length ≤ n := by
  rw [cnt_all A] at h
  refine cMost_le L n _ (fun q hq => ?_)
  refine Nat.le_of_not_lt fun hc => ?_
  have := A.no q hq hc
  omega
theorem pl_each {L : List Iv} {n : Nat} {c : CS} (A : CAns L n c) {i : Nat} (hi : i < L.length) : (∃ p : Nat, (plT L c.o)[i]? = some ((ivA L i).r, (p : Int), -1) ∧ p < n ∧ c.o[i]? = some (some p, none)) ∨ ∃ t : Nat, (plT L c.o)[i]? = some ((ivA L i).r, -1, (t : Int)) ∧ c.o[i]? = some (none, some t) := by
  rcases A.each i hi with ⟨p, h1, h2⟩ | ⟨t, h1⟩
  · exact Or.inl ⟨p, by rw [plT_at hi, h1]; rfl, h2, h1⟩
  · exact Or.inr ⟨t, by rw [plT_at hi, h1]; rfl, h1⟩
theorem pl_phys {L : List Iv} {n : Nat} {c : CS} (A : CAns L n c) {i k p : Nat} (hk : k < L.length) (hne : i ≠ k) (h1 : (ivA L i).s ≤ (ivA L k).e) (h2 : (ivA L k).s ≤ (ivA L i).e) (ho : c.o[i]? = some (some p, none)) {t : T3} (ht : (plT L c.o)[k]? = some t) : (p : Int) ≠ t.2.1 := by
  rcases pl_each A hk with ⟨p', hp', _, ho'⟩ | ⟨s, hs, _⟩
  · rw [hp'] at ht
    injection ht with ht
    subst ht
    intro e
    have e : p = p' := by have : (p : Int) = (p' : Int) := e; omega
    subst e
    rcases Nat.lt_or_gt_of_ne hne with h | h
    · have := A.phys i k p _ _ h ho ho'; omega
    · have := A.phys k i p _ _ h ho' ho; omega
  · rw [hs] at ht
    injection ht with ht
    subst ht
    show (p : Int) ≠ -1
    omega
theorem pl_slot {L : List Iv} {n : Nat} {c : CS} (A : CAns L n c) {i k s : Nat} (hk : k < L.length) (hne : i ≠ k) (ho : c.o[i]? = some (none, some s)) {t : T3} (ht : (plT L c.o)[k]? = some t) : (s : Int) ≠ t.2.2 := by
  rcases pl_each A hk with ⟨p', hp', _, ho'⟩ | ⟨s', hs, ho'⟩
  · rw [hp'] at ht
    injection ht with ht
    subst ht
    show (s : Int) ≠ -1
    omega
  · rw [hs] at ht
    injection ht with ht
    subst ht
    intro e
    have e : s = s' := by have : (s : Int) = (s' : Int) := e; omega
    subst e
    rcases Nat.lt_or_gt_of_ne hne with h | h
    · exact A.slot i k s h ho ho'
    · exact A.slot k i s h ho' ho

end Go.Proofs.Ytjopfpchbakggaa
