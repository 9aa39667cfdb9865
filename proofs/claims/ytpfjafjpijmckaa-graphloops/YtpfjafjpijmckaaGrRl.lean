/- Plain: what the walk shuts is what the document comes to. -/
import Derived.Test.YtpfjafjpijmckaaGrRk
set_option linter.unusedSimpArgs false
set_option linter.unusedVariables false
namespace Go.Proofs.Ytpfjafjpijmckaa
open Go.RowKit

theorem gHas_iff (x : Int) : ∀ (o : List Nat), gHas x o = true ↔ ∃ y ∈ o, (y : Int) = x
  | [] => by simp [gHas]
  | y :: r => by
    rw [gHas]
    split
    · rename_i e; exact ⟨fun _ => ⟨y, List.mem_cons_self .., e⟩, fun _ => rfl⟩
    · rename_i e
      rw [gHas_iff x r]
      constructor
      · rintro ⟨z, hz, h⟩; exact ⟨z, List.mem_cons_of_mem _ hz, h⟩
      · rintro ⟨z, hz, h⟩
        rcases List.mem_cons.1 hz with f | f
        · exact absurd (by rw [← f]; exact h) e
        · exact ⟨z, f, h⟩
theorem gNormL_mem (n : Nat) : ∀ (l : List Int) (o : List Nat) (q : Nat), q ∈ gNormL n l o ↔ (q ∈ o ∨ ((q : Int) ∈ l ∧ gPt n (q : Int) = true))
  | [], o, q => by simp [gNormL]
  | x :: r, o, q => by
    rw [gNormL, gNormL_mem n r _ q]
    by_cases hp : gPt n x = true
    · have hx : ((x.toNat : Nat) : Int) = x := by unfold gPt at hp; simp at hp; omega
      cases hh : gHas x o with
      | true =>
        obtain ⟨y, hy, e⟩ := (gHas_iff x o).1 hh
        rw [if_neg (by simp)]
        constructor
        · rintro (e | ⟨e, f⟩)
          · exact Or.inl e
          · exact Or.inr ⟨List.mem_cons_of_mem _ e, f⟩
        · rintro (e | ⟨e', f⟩)
          · exact Or.inl e
          · rcases List.mem_cons.1 e' with e' | e'
            · exact Or.inl (by rw [show q = y by omega]; exact hy)
            · exact Or.inr ⟨e', f⟩
      | false =>
        rw [if_pos (by rw [hp]; rfl)]
        constructor
        · rintro (e | ⟨e, f⟩)
          · rcases List.mem_append.1 e with e | e
            · exact Or.inl e
            · have := List.mem_singleton.1 e
              refine Or.inr ⟨?_, ?_⟩
              · rw [this, hx]; exact List.mem_cons_self ..
              · rw [this, hx]; exact hp
          · exact Or.inr ⟨List.mem_cons_of_mem _ e, f⟩
        · rintro (e | ⟨e, f⟩)
          · exact Or.inl (List.mem_append_left _ e)
          · rcases List.mem_cons.1 e with e | e
            · exact Or.inl (List.mem_append_right _ (List.mem_singleton.2 (by omega)))
            · exact Or.inr ⟨e, f⟩
    · rw [if_neg (by simp [hp])]
      constructor
      · rintro (e | ⟨e, f⟩)
        · exact Or.inl e
        · exact Or.inr ⟨List.mem_cons_of_mem _ e, f⟩
      · rintro (e | ⟨e, f⟩)
        · exact Or.inl e
        · rcases List.mem_cons.1 e with e | e
          · exact absurd (by rw [← e]; exact f) hp
          · exact Or.inr ⟨e, f⟩
theorem gNorm_get (g : List (List Int)) (a : Nat) (L : List Int) (h : g[a]? = some L) : (gNorm g)[a]? = some (gNormL g.length L []) := by
  unfold gNorm
  rw [List.getElem?_map, h]
  rfl
theorem gNorm_get' (g : List (List Int)) (a : Nat) (l : List Nat) (h : (gNorm g)[a]? = some l) : ∃ L, g[a]? = some L ∧ l = gNormL g.length L [] := by
  unfold gNorm at h
  rw [List.getElem?_map] at h
  cases e : g[a]? with
  | none => rw [e] at h; cases h
  | some L => rw [e] at h; injection h with h; exact ⟨L, rfl, h.symm⟩

/-- What is shut, behind from at a point that is not shut: what was, and what a way comes to. -/
theorem dFrom_on (g : List (List Int)) (k : Nat) (d d2 : GD) (p : Nat) (h : dFrom g k d p = some d2) (hl : d.shut.length = g.length) (hz : ∀ q : Nat, d.shut[q]? ≠ some true) (q : Nat) : d2.shut[q]? = some true ↔ Way (gNorm g) (-1) p q := by
  unfold dFrom at h
  split at h
  · cases h
  · rename_i L hL
    have hp : p < g.length := (List.getElem?_eq_some_iff.1 hL).1
    split at h
    · cases h
    · rename_i d1 h1
      injection h with h
      subst h
      obtain ⟨a0, a1, a2, a3, a4⟩ := dScan_on g k _ _ _ _ h1 (by simp [hl])
      simp only at a1 a2 a3 a4
      have hset : ∀ q : Nat, (d.shut.set p true)[q]? = some true → q = p := by
        intro q hq
        rw [List.getElem?_set] at hq
        split at hq
        · rename_i e; exact e.symm
        · exact absurd hq (hz q)
      have hp1 : (d.shut.set p true)[p]? = some true := by rw [List.getElem?_set]; simp [hl, hp]
      constructor
      · intro hq
        have st : ∀ (a : Nat) (L : List Int) (x : Int), Way (gNorm g) (-1) p a → g[a]? = some L → x ∈ L → gPt g.length x = true → Way (gNorm g) (-1) p x.toNat := by
          intro a L x ha hL hx hpt
          have hx0 : ((x.toNat : Nat) : Int) = x := by unfold gPt at hpt; simp at hpt; omega
          exact .step ha (gNorm_get g a L hL) ((gNormL_mem _ _ _ _).2 (Or.inr ⟨by rw [hx0]; exact hx, by rw [hx0]; exact hpt⟩)) (by omega)
        rcases a4 (fun q => Way (gNorm g) (-1) p q) (fun a L x ha hL hx hpt _ => st a L x ha hL hx hpt) (fun x hx hpt _ => st p L x .nil hL hx hpt) q hq with e | e
        · rw [hset q e]; exact .nil
        · exact e
      · intro hw
        induction hw with
        | nil => exact a1 p hp1
        | @step b c l _ e f _ ih =>
          obtain ⟨Lb, hLb, rfl⟩ := gNorm_get' g b l e
          rcases (gNormL_mem _ _ _ _).1 f with f | ⟨f, f'⟩
          · cases f
          · rcases a3 b ih with e | e
            · have := hset b e
              subst this
              rw [hL] at hLb
              injection hLb with hLb
              subst hLb
              exact a2 _ f f'
            · exact e Lb hLb _ f f'

theorem dFrom_ends (g : List (List Int)) (D k : Nat) (hD : ∀ l ∈ g, l.length ≤ D) (d : GD) (p : Nat) (hp : p < g.length) (hl : d.shut.length = g.length) (hk : g.length * (D + 2) + D + 1 ≤ k) : ∃ d2, dFrom g k d p = some d2 := by
  have hu := unsh_le (d.shut.set p true)
  rw [List.length_set, hl] at hu
  have := Nat.mul_le_mul_right (D + 2) hu
  have hll := hD _ (List.getElem_mem hp)
  obtain ⟨d2, e, _⟩ := dScan_ends g D hD k ⟨d.shut.set p true, d.wby, d.met ++ [p], d.left⟩ p g[p] (by simp [hl]) (by
    show unsh (d.shut.set p true) * (D + 2) + _ + 1 ≤ k
    omega)
  refine ⟨⟨d2.shut, d2.wby, d2.met, d2.left ++ [p]⟩, ?_⟩
  unfold dFrom
  rw [List.getElem?_eq_getElem hp]
  simp only [e]

theorem lens_bd : ∀ (g : List (List Int)), ∃ D, ∀ l ∈ g, l.length ≤ D
  | [] => ⟨0, fun l h => by cases h⟩
  | l :: r => by
    obtain ⟨D, h⟩ := lens_bd r
    exact ⟨max D l.length, fun x hx => by
      rcases List.mem_cons.1 hx with e | e
      · subst e; exact Nat.le_max_right _ _
      · exact Nat.le_trans (h x e) (Nat.le_max_left _ _)⟩

/-- A walk from the first point: there is one that calls itself, and it comes to the same. -/
theorem gWalk_d (g : List (List Int)) (K : Nat) (F : GW) (hn : g.length ≠ 0) (h : gWalk g K = some F) : ∃ k d2, dFrom g k (gNew g.length).gd 0 = some d2 ∧ F.gd = d2 ∧ WLen g.length F := by
  obtain ⟨D, hD⟩ := lens_bd g
  unfold gWalk at h
  rw [if_neg hn] at h
  have hl : (gNew g.length).gd.shut.length = g.length := by simp [gNew, GW.gd]
  obtain ⟨d2, e⟩ := dFrom_ends g D _ hD (gNew g.length).gd 0 (by omega) hl (Nat.le_refl _)
  obtain ⟨h1, h2, _⟩ := gFrom_d g _ K _ F d2 0 e h ⟨by simp [gNew], by simp [gNew], by simp [gNew]⟩ (by omega) (by show (List.replicate _ _)[0]? = _; rw [List.getElem?_replicate, if_pos (by omega)]) (by show (List.replicate _ _)[0]? = _; rw [List.getElem?_replicate, if_pos (by omega)]) (fun q hq => by
    have hql := (List.getElem?_eq_some_iff.1 hq).1
    simp [gNew] at hql
    show (List.replicate _ _)[q]? = _
    rw [List.getElem?_replicate, if_pos hql])
  exact ⟨_, d2, e, h1, h2⟩
/-- Reach is the document's. -/
theorem gWalk_reach (g : List (List Int)) (K K2 : Nat) (F : GW) (R : List Bool) (h : gWalk g K = some F) (hr : rFrom (gNorm g) 0 (-1) K2 = some R) (hR : R.length = g.length) : F.shut = R := by
  by_cases hn : g.length = 0
  · unfold gWalk at h
    rw [if_pos hn] at h
    injection h with h
    subst h
    have : R = [] := List.eq_nil_of_length_eq_zero (by omega)
    rw [this]
    rfl
  · obtain ⟨k, d2, e1, e2, e3⟩ := gWalk_d g K F hn h
    have hl : (gNew g.length).gd.shut.length = g.length := by simp [gNew, GW.gd]
    have hon := dFrom_on g k _ _ 0 e1 hl (fun q hq => by
      simp [gNew, GW.gd, List.getElem?_replicate] at hq)
    have hs : d2.shut = F.shut := by rw [← e2]; rfl
    rw [hs] at hon
    have key : ∀ q : Nat, F.shut[q]? = some true ↔ R[q]? = some true := by
      intro q
      rw [hon q, rFrom_on _ _ _ _ _ hr q, gNorm_len]
      constructor
      · intro hw; exact ⟨by omega, by omega, by omega, hw⟩
      · rintro ⟨_, _, _, hw⟩; exact hw
    refine List.ext_getElem? (fun q => ?_)
    have hk := key q
    cases c1 : F.shut[q]? with
    | none =>
      rw [List.getElem?_eq_none_iff, e3.sh] at c1
      exact (List.getElem?_eq_none_iff.2 (by omega)).symm
    | some b =>
      have hql := (List.getElem?_eq_some_iff.1 c1).1
      rw [e3.sh] at hql
      have c2 : R[q]? = some (R[q]'(by omega)) := List.getElem?_eq_getElem _
      generalize R[q]'(by omega) = b2 at c2
      rw [c1, c2] at hk
      rw [c2]
      cases b <;> cases b2 <;> simp at hk ⊢
end Go.Proofs.Ytpfjafjpijmckaa
