/- Slots that are given one after the other: the greatest and one is how many there are. -/
import Derived.Test.YtjopfpchbakggaaCoL
set_option linter.unusedSimpArgs false
set_option linter.unusedVariables false
set_option maxRecDepth 10000
namespace Go.Proofs.Ytjopfpchbakggaa
open Go.RowKit

/-- How many of the first i have a slot. -/
def cntS (T : List T3) : Nat → Nat
  | 0 => 0
  | i + 1 => cntS T i + if 0 ≤ (rwA T i).2.2 then 1 else 0
theorem cntS_le (T : List T3) : ∀ i, cntS T i ≤ i
  | 0 => Nat.le_refl _
  | i + 1 => by
    have := cntS_le T i
    rw [cntS]
    split <;> omega
/-- Of the first i the greatest slot and one. -/
def gSl (T : List T3) : Nat → Nat
  | 0 => 0
  | i + 1 => if (gSl T i : Int) ≤ (rwA T i).2.2 then ((rwA T i).2.2 + 1).toNat else gSl T i
/-- Slots have the numbers from 0 on, none left out, and none too great. -/
def SlOk (T : List T3) : Prop := gSl T T.length = cntS T T.length ∧ ∀ i, i < T.length → (rwA T i).2.2 ≤ 100000
theorem gSl_up {T : List T3} {n m : Nat} (h : ∀ i, i < m → (rwA T i).2.2 < (n : Int)) : ∀ i, i ≤ m → gSl T i ≤ n
  | 0, _ => Nat.zero_le _
  | i + 1, hi => by
    have h1 := gSl_up h i (by omega)
    have h2 := h i (by omega)
    rw [gSl]
    split <;> omega
theorem gSl_mono (T : List T3) : ∀ {i j : Nat}, i ≤ j → gSl T i ≤ gSl T j
  | i, 0, h => by
    obtain rfl : i = 0 := by omega
    exact Nat.le_refl _
  | i, j + 1, h => by
    by_cases e : i = j + 1
    · subst e; exact Nat.le_refl _
    · refine Nat.le_trans (gSl_mono T (show i ≤ j by omega)) ?_
      rw [gSl]
      split <;> omega
theorem gSl_low (T : List T3) (k i : Nat) (h : k < i) : (rwA T k).2.2 + 1 ≤ (gSl T i : Int) := by
  have h1 := gSl_mono T (show k + 1 ≤ i by omega)
  have h2 : (rwA T k).2.2 + 1 ≤ (gSl T (k + 1) : Int) := by
    rw [gSl]
    split <;> omega
  omega
/-- Each slot from 0 on was given. -/
theorem cStep_all {L : List Iv} {m i : Nat} {c : CS} (I : CInv L m i c) (h : ∀ t, t < c.n → ∃ k : Nat, c.o[k]? = some (none, some t)) : ∀ t, t < (cStep L i c).n → ∃ k : Nat, (cStep L i c).o[k]? = some (none, some t) := by
  unfold cStep
  cases hf : cFree (cOver L (ivA L i).s c.h) with
  | some p =>
    simp only
    intro t ht
    obtain ⟨k, hk⟩ := h t ht
    exact ⟨k, by rw [List.getElem?_append_left (List.getElem?_eq_some_iff.1 hk).1]; exact hk⟩
  | none =>
    simp only
    by_cases hw : cWorst L (cOver L (ivA L i).s c.h) i = i
    · rw [if_pos hw]
      intro t ht
      by_cases e : t = c.n
      · subst e
        exact ⟨c.o.length, by simp⟩
      · obtain ⟨k, hk⟩ := h t (by have ht : t < c.n + 1 := ht; omega)
        exact ⟨k, by show (c.o ++ [(none, some c.n)])[k]? = _; rw [List.getElem?_append_left (List.getElem?_eq_some_iff.1 hk).1]; exact hk⟩
    · rw [if_neg hw]
      generalize hW : cWorst L (cOver L (ivA L i).s c.h) i = W at hw ⊢
      have hmem := cWorst_mem L (cOver L (ivA L i).s c.h) i
      rw [hW] at hmem
      rcases hmem with e | ⟨p, hp⟩
      · exact absurd e hw
      obtain ⟨hp1, hp2⟩ := cover_at.1 hp
      have hoW := I.a p W hp1
      have hWl := (List.getElem?_eq_some_iff.1 hoW).1
      rw [hoW]
      simp only
      intro t ht
      by_cases e : t = c.n
      · subst e
        exact ⟨W, by show (c.o.set W (none, some c.n) ++ [(some p, none)])[W]? = _; rw [List.getElem?_append_left (by rw [List.length_set]; exact hWl), List.getElem?_set_self hWl]⟩
      · obtain ⟨k, hk⟩ := h t (by have ht : t < c.n + 1 := ht; omega)
        have hne : W ≠ k := fun e => by
          subst e
          rw [hoW] at hk
          injection hk with hk
          injection hk with hk
          cases hk
        exact ⟨k, by show (c.o.set W (none, some c.n) ++ [(some p, none)])[k]? = _; rw [List.getElem?_append_left (by rw [List.length_set]; exact (List.getElem?_eq_some_iff.1 hk).1), List.getElem?_set_ne hne]; exact hk⟩
theorem cUp_all {L : List Iv} (hL : IvOk L) (m : Nat) : ∀ i, i ≤ L.length → ∀ t, t < (cUp L m i).n → ∃ k : Nat, (cUp L m i).o[k]? = some (none, some t)
  | 0, _, t, ht => absurd ht (Nat.not_lt_zero _)
  | i + 1, hi, t, ht => cStep_all (cUp_inv hL m i (by omega)) (cUp_all hL m i (by omega)) t ht
theorem cntS_is {T : List T3} {o : List (Option Nat × Option Nat)} (h : ∀ (k : Nat) z, o[k]? = some z → (rwA T k).2.2 = oI z.2) : ∀ i, i ≤ o.length → cntS T i = ((o.take i).filter (fun z => z.2.isSome)).length
  | 0, _ => by simp [cntS]
  | i + 1, hi => by
    obtain ⟨z, hz⟩ : ∃ z, o[i]? = some z := ⟨_, List.getElem?_eq_getElem (by omega)⟩
    rw [cntS, cntS_is h i (by omega), h i z hz, List.take_add_one, hz, List.filter_append, List.length_append]
    congr 1
    obtain ⟨a, b⟩ := z
    cases b with
    | none => rw [if_neg (show ¬ (0 : Int) ≤ oI (a, (none : Option Nat)).2 by show ¬ (0 : Int) ≤ -1; omega)]; simp
    | some t => rw [if_pos (show (0 : Int) ≤ oI (a, some t).2 by show (0 : Int) ≤ (t : Int); omega)]; simp
theorem slOk_asg {L : List Iv} (hL : IvOk L) (hl : L.length ≤ 100000) (n : Nat) : SlOk (plT L (cAsg L n).o) := by
  have I := cUp_inv hL (min (max n 1) (L.length + 1)) L.length (Nat.le_refl _)
  have A := cUp_all hL (min (max n 1) (L.length + 1)) L.length (Nat.le_refl _)
  have e : cUp L (min (max n 1) (L.length + 1)) L.length = cAsg L n := rfl
  rw [e] at I A
  have hr : ∀ (k : Nat) z, (cAsg L n).o[k]? = some z → (rwA (plT L (cAsg L n).o) k).2.2 = oI z.2 := fun k z hz => by
    have hk := (List.getElem?_eq_some_iff.1 hz).1
    rw [I.ol] at hk
    unfold rwA
    rw [plT_at hk, hz]
    rfl
  have hcn : (cAsg L n).n ≤ L.length := by
    rw [← I.g, ← I.ol]
    exact List.length_filter_le _ _
  have hlt : ∀ k, k < L.length → (rwA (plT L (cAsg L n).o) k).2.2 < ((cAsg L n).n : Int) := fun k hk => by
    obtain ⟨z, hz⟩ : ∃ z, (cAsg L n).o[k]? = some z := ⟨_, List.getElem?_eq_getElem (by rw [I.ol]; exact hk)⟩
    rw [hr k z hz]
    obtain ⟨a, b⟩ := z
    cases a with
    | some p =>
      have := (I.b k p b hz).1
      rw [this]
      simp only [oI]
      omega
    | none =>
      obtain ⟨t, h1, h2⟩ := I.d k b hz
      rw [h1]
      simp only [oI]
      omega
  refine ⟨?_, fun i hi => ?_⟩
  · rw [plT_len, cntS_is hr _ (by rw [I.ol]; exact Nat.le_refl _), ← I.ol, List.take_length, I.g, I.ol]
    refine Nat.le_antisymm (gSl_up hlt _ (Nat.le_refl _)) ?_
    by_cases h0 : (cAsg L n).n = 0
    · omega
    · obtain ⟨k, hk⟩ := A ((cAsg L n).n - 1) (by omega)
      have hkl := (List.getElem?_eq_some_iff.1 hk).1
      rw [I.ol] at hkl
      have := gSl_low (plT L (cAsg L n).o) k L.length hkl
      rw [hr k _ hk] at this
      simp only [oI] at this
      omega
  · rw [plT_len] at hi
    have := hlt i hi
    omega

end Go.Proofs.Ytjopfpchbakggaa
