/- Neighbours changed until all stand in order, in plain words. -/
import Derived.Test.YtjopfpchbakggaaCoF
set_option linter.unusedSimpArgs false
set_option linter.unusedVariables false
namespace Go.Proofs.Ytjopfpchbakggaa
open Go.RowKit

/-- The neighbours k and k + 1 in order. -/
def bSw (n : Nat) (p : List Nat) (k : Nat) : List Nat := match p[k]?, p[k + 1]? with
  | some a, some b => if fwS n b < fwS n a then (p.set k b).set (k + 1) a else p
  | _, _ => p
/-- So many steps, from the end on. -/
def bPs (n : Nat) (p : List Nat) : Nat → List Nat
  | 0 => p
  | t + 1 => bSw n (bPs n p t) (p.length - 2 - t)
def bAll (n : Nat) (p : List Nat) : Nat → List Nat
  | 0 => p
  | i + 1 => bPs n (bAll n p i) ((bAll n p i).length - 1)
def sv (n : Nat) (p : List Nat) (j : Nat) : Nat := fwS n ((p[j]?).getD 0)
theorem bSw_perm (n : Nat) (p : List Nat) (k : Nat) : (bSw n p k).Perm p := by
  unfold bSw
  cases ha : p[k]? with
  | none => exact List.Perm.refl _
  | some a =>
    cases hb : p[k + 1]? with
    | none => exact List.Perm.refl _
    | some b =>
      simp only
      split
      · obtain ⟨h1, e1⟩ := List.getElem?_eq_some_iff.1 ha
        obtain ⟨h2, e2⟩ := List.getElem?_eq_some_iff.1 hb
        rw [← e1, ← e2]
        exact List.set_set_perm h1 h2
      · exact List.Perm.refl _
theorem bPs_perm (n : Nat) (p : List Nat) : ∀ t, (bPs n p t).Perm p
  | 0 => List.Perm.refl _
  | t + 1 => (bSw_perm n _ _).trans (bPs_perm n p t)
theorem bAll_perm (n : Nat) (p : List Nat) : ∀ i, (bAll n p i).Perm p
  | 0 => List.Perm.refl _
  | i + 1 => (bPs_perm n _ _).trans (bAll_perm n p i)
theorem bSw_sv {n k : Nat} {p : List Nat} (hk : k + 1 < p.length) (j : Nat) : sv n (bSw n p k) j = if j = k then min (sv n p k) (sv n p (k + 1)) else if j = k + 1 then max (sv n p k) (sv n p (k + 1)) else sv n p j := by
  have ha : p[k]? = some p[k] := List.getElem?_eq_getElem (by omega)
  have hb : p[k + 1]? = some p[k + 1] := List.getElem?_eq_getElem hk
  have sa : sv n p k = fwS n p[k] := by unfold sv; rw [ha]; rfl
  have sb : sv n p (k + 1) = fwS n p[k + 1] := by unfold sv; rw [hb]; rfl
  rw [sa, sb]
  unfold bSw
  rw [ha, hb]
  simp only
  split
  · rename_i hlt
    unfold sv
    by_cases h1 : j = k
    · subst h1
      rw [if_pos rfl, List.getElem?_set_ne (by omega), List.getElem?_set_self (by omega)]
      show fwS n p[j + 1] = _
      omega
    · rw [if_neg h1]
      by_cases h2 : j = k + 1
      · subst h2
        rw [if_pos rfl, List.getElem?_set_self (by rw [List.length_set]; omega)]
        show fwS n p[k] = _
        omega
      · rw [if_neg h2, List.getElem?_set_ne (fun e => h2 e.symm), List.getElem?_set_ne (fun e => h1 e.symm)]
  · rename_i hge
    by_cases h1 : j = k
    · subst h1
      rw [if_pos rfl, sa]
      omega
    · rw [if_neg h1]
      by_cases h2 : j = k + 1
      · subst h2
        rw [if_pos rfl, sb]
        omega
      · rw [if_neg h2]
/-- The first i are the least, in order. -/
def SP (n : Nat) (p : List Nat) (i : Nat) : Prop := ∀ a b, a < i → a ≤ b → b < p.length → sv n p a ≤ sv n p b
theorem bPs_len (n : Nat) (p : List Nat) (t : Nat) : (bPs n p t).length = p.length := (bPs_perm n p t).length_eq
theorem bAll_len (n : Nat) (p : List Nat) (t : Nat) : (bAll n p t).length = p.length := (bAll_perm n p t).length_eq
theorem bPs_sp (n : Nat) (p : List Nat) (i : Nat) (h : SP n p i) (hi : i < p.length) : ∀ t, t ≤ p.length - 1 → SP n (bPs n p t) i ∧ ∀ b, max (p.length - 1 - t) i ≤ b → b < p.length → sv n (bPs n p t) (max (p.length - 1 - t) i) ≤ sv n (bPs n p t) b
  | 0, _ => ⟨h, fun b h1 h2 => by
    have : b = max (p.length - 1 - 0) i := by omega
    rw [← this]
    exact Nat.le_refl _⟩
  | t + 1, ht => by
    obtain ⟨s1, s2⟩ := bPs_sp n p i h hi t (by omega)
    have hl := bPs_len n p t
    have hk : p.length - 2 - t + 1 < (bPs n p t).length := by omega
    have hsv := bSw_sv (n := n) hk
    generalize hK : p.length - 2 - t = K at hk hsv
    have e1 : p.length - 1 - t = K + 1 := by omega
    have e2 : p.length - 1 - (t + 1) = K := by omega
    rw [e1] at s2
    rw [e2]
    have hb : bPs n p (t + 1) = bSw n (bPs n p t) K := by rw [bPs, hK]
    rw [hb]
    generalize bPs n p t = q at hl hk hsv s1 s2
    have hql : (bSw n q K).length = p.length := by rw [(bSw_perm n q K).length_eq]; exact hl
    by_cases hKi : i ≤ K
    · rw [show max (K + 1) i = K + 1 by omega] at s2
      rw [show max K i = K by omega]
      have m0 := s2 (K + 1) (Nat.le_refl _) (by omega)
      refine ⟨fun a b ha hab hbl => ?_, fun b h1 h2 => ?_⟩
      · rw [hql] at hbl
        rw [hsv a, hsv b, if_neg (by omega), if_neg (by omega)]
        have a1 := s1 a K ha (by omega) (by omega)
        have a2 := s1 a (K + 1) ha (by omega) (by omega)
        have a3 := s1 a b ha hab (by omega)
        split
        · omega
        · split <;> omega
      · rw [hsv K, hsv b, if_pos rfl]
        by_cases c1 : b = K
        · rw [if_pos c1]; omega
        · rw [if_neg c1]
          by_cases c2 : b = K + 1
          · rw [if_pos c2]; omega
          · rw [if_neg c2]
            have := s2 b (by omega) h2
            omega
    · have hno := s1 K (K + 1) (by omega) (by omega) (by omega)
      have hsame : ∀ j, sv n (bSw n q K) j = sv n q j := fun j => by
        rw [hsv j]
        by_cases c1 : j = K
        · rw [if_pos c1, c1]; omega
        · rw [if_neg c1]
          by_cases c2 : j = K + 1
          · rw [if_pos c2, c2]; omega
          · rw [if_neg c2]
      rw [show max (K + 1) i = i by omega] at s2
      rw [show max K i = i by omega]
      refine ⟨fun a b ha hab hbl => ?_, fun b h1 h2 => ?_⟩
      · rw [hsame, hsame]
        exact s1 a b ha hab (by omega)
      · rw [hsame, hsame]
        exact s2 b h1 h2
theorem bAll_sp (n : Nat) (p : List Nat) : ∀ i, i ≤ p.length → SP n (bAll n p i) i
  | 0, _ => fun a b h => by omega
  | i + 1, hi => by
    have h := bAll_sp n p i (by omega)
    have hl := bAll_len n p i
    have hs := bPs_sp n (bAll n p i) i h (by omega) ((bAll n p i).length - 1) (Nat.le_refl _)
    rw [show max ((bAll n p i).length - 1 - ((bAll n p i).length - 1)) i = i by omega] at hs
    rw [bAll]
    intro a b ha hab hbl
    rw [bPs_len] at hbl
    by_cases e : a = i
    · subst e
      exact hs.2 b hab hbl
    · exact hs.1 a b (by omega) hab (by rw [bPs_len]; exact hbl)
theorem bAll_ord (n N : Nat) : Ord n N (bAll n (List.range N) N) := by
  have hp := bAll_perm n (List.range N) N
  have hl : (bAll n (List.range N) N).length = N := by rw [hp.length_eq, List.length_range]
  refine ⟨hl, hp.nodup_iff.2 List.nodup_range, fun r hr => List.mem_range.1 (hp.mem_iff.1 hr), fun i j x y hij hx hy => ?_⟩
  have hs := bAll_sp n (List.range N) N (by simp)
  have hj := (List.getElem?_eq_some_iff.1 hy).1
  have := hs i j (by omega) hij hj
  unfold sv at this
  rw [hx, hy] at this
  exact this

end Go.Proofs.Ytjopfpchbakggaa
