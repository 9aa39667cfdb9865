/- Rows of intervals, so many at once: the first ones get the least registers, and keep them. -/
import Derived.Test.YtjopfpchbakggaaCoE
set_option linter.unusedSimpArgs false
set_option linter.unusedVariables false
namespace Go.Proofs.Ytjopfpchbakggaa
open Go.RowKit

theorem cFree_pref : ∀ (l : List Nat) (r : List (Option Nat)), cFree (l.map some ++ none :: r) = some l.length
  | [], r => rfl
  | x :: l, r => by
    rw [List.map_cons, List.cons_append, cFree, cFree_pref l r]
    rfl
theorem cStep_n (L : List Iv) (i : Nat) (c : CS) : c.n ≤ (cStep L i c).n := by
  unfold cStep
  split
  · exact Nat.le_refl _
  · split
    · show c.n ≤ c.n + 1; omega
    · split
      · show c.n ≤ c.n + 1; omega
      · exact Nat.le_refl _
theorem cUp_n (L : List Iv) (m : Nat) {i : Nat} : ∀ {j : Nat}, i ≤ j → (cUp L m i).n ≤ (cUp L m j).n
  | 0, h => by
    obtain rfl : i = 0 := by omega
    exact Nat.le_refl _
  | j + 1, h => by
    by_cases e : i = j + 1
    · subst e; exact Nat.le_refl _
    · exact Nat.le_trans (cUp_n L m (show i ≤ j by omega)) (cStep_n L j _)
theorem cStep_keep {L : List Iv} {m i : Nat} {c : CS} (I : CInv L m i c) (J : CInv L m (i + 1) (cStep L i c)) (h : (cStep L i c).n = 0) {k : Nat} (hk : k < i) : (cStep L i c).o[k]? = c.o[k]? := by
  have hl := J.ol
  unfold cStep at h hl ⊢
  cases hf : cFree (cOver L (ivA L i).s c.h) with
  | some p =>
    try rw [hf]
    show (c.o ++ [(some p, none)])[k]? = _
    rw [List.getElem?_append_left (by rw [I.ol]; exact hk)]
  | none =>
    try rw [hf] at h
    try rw [hf] at hl
    try rw [hf]
    simp only at h hl ⊢
    split at h
    · exact absurd h (Nat.succ_ne_zero _)
    · rename_i hw
      rw [if_neg hw] at hl
      split at h
      · exact absurd h (Nat.succ_ne_zero _)
      · rename_i hno
        exfalso
        split at hl
        · rename_i p' s' he
          exact hno p' s' he
        · have := I.ol
          omega
theorem cUp_keep {L : List Iv} (hL : IvOk L) (m : Nat) (h0 : (cUp L m L.length).n = 0) {i k : Nat} (hk : k < i) : ∀ {j : Nat}, i ≤ j → j ≤ L.length → (cUp L m j).o[k]? = (cUp L m i).o[k]?
  | 0, h, _ => by omega
  | j + 1, h, hj => by
    by_cases e : i = j + 1
    · subst e; rfl
    · rw [← cUp_keep hL m h0 hk (show i ≤ j by omega) (by omega)]
      have hz : (cUp L m (j + 1)).n = 0 := by
        have := cUp_n L m hj
        omega
      exact cStep_keep (cUp_inv hL m j (by omega)) (cUp_inv hL m (j + 1) hj) hz (by omega)
theorem Ord.begin {n N : Nat} {p : List Nat} (h : Ord n N p) (hn : 1 ≤ n) (hN : n ≤ N) : ∀ i, i ≤ n → cUp (p.map (fw n)) n i = ⟨(List.range i).map some ++ List.replicate (n - i) none, (List.range i).map (fun j => (some j, none)), 0⟩
  | 0, _ => by simp [cUp]
  | i + 1, hi => by
    rw [cUp, h.begin hn hN i (by omega)]
    obtain ⟨x, hx⟩ : ∃ x, p[i]? = some x := ⟨_, List.getElem?_eq_getElem (by rw [h.len]; omega)⟩
    have hxn := h.first hn hN (by omega) hx
    have hov : cOver (p.map (fw n)) (ivA (p.map (fw n)) i).s ((List.range i).map some ++ List.replicate (n - i) none) = (List.range i).map some ++ List.replicate (n - i) none := by
      unfold cOver
      rw [List.map_append, List.map_map]
      congr 1
      · apply List.map_congr_left
        intro j hj
        have hji := List.mem_range.1 hj
        obtain ⟨y, hy⟩ : ∃ y, p[j]? = some y := ⟨_, List.getElem?_eq_getElem (by rw [h.len]; omega)⟩
        have hyn := h.first hn hN (by omega) hy
        show cFr1 _ _ (some j) = some j
        unfold cFr1
        simp only
        rw [fw_at hx, fw_at hy, if_neg]
        have d1 := Nat.div_eq_of_lt hxn
        have d2 := Nat.div_eq_of_lt hyn
        show ¬ (fwE n y : Int) < (fwS n x : Int)
        unfold fwE fwS
        rw [d1, d2]
        omega
      · simp [cFr1]
    have hfr : cFree ((List.range i).map some ++ List.replicate (n - i) none) = some i := by
      rw [show n - i = (n - i - 1) + 1 by omega, List.replicate_succ, cFree_pref]
      simp
    unfold cStep
    simp only
    rw [hov, hfr]
    simp only
    congr 1
    · rw [List.set_append_right _ _ (by simp), List.length_map, List.length_range, Nat.sub_self, show n - i = (n - (i + 1)) + 1 by omega, List.replicate_succ, List.set_cons_zero, List.range_succ, List.map_append, List.append_assoc]
      rfl
    · rw [List.range_succ, List.map_append]
      rfl
theorem Ord.least {n N : Nat} {p : List Nat} (h : Ord n N p) (hn : 1 ≤ n) (hN : n ≤ N) (hb : N ≤ 1000) {i : Nat} (hi : i < n) : (cAsg (p.map (fw n)) n).o[i]? = some (some i, none) := by
  have hG := (h.good hb).ok
  have hc := cAsg_ans hG n hn
  have h0 := h.noslot hn hc
  have hl : (p.map (fw n)).length = N := by rw [List.length_map, h.len]
  unfold cAsg at h0 ⊢
  rw [show max n 1 = n by omega, show min n ((p.map (fw n)).length + 1) = n by omega] at h0 ⊢
  rw [cUp_keep hG n h0 (i := n) hi (by omega) (Nat.le_refl _), h.begin hn hN n (Nat.le_refl _)]
  simp [hi]

end Go.Proofs.Ytjopfpchbakggaa
