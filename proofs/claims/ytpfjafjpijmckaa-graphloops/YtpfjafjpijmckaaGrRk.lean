/- Plain: the walk that calls itself ends, and what it shuts. -/
import Derived.Test.YtpfjafjpijmckaaGrRj
set_option linter.unusedSimpArgs false
set_option linter.unusedVariables false
namespace Go.Proofs.Ytpfjafjpijmckaa
open Go.RowKit

theorem gLook_mono (g : List (List Int)) : ∀ (k : Nat) (st : GW) (p : Nat) (F : GW), gLook g k st p = some F → ∀ K, k ≤ K → gLook g K st p = some F
  | 0, st, p, F, h, K, hK => by rw [gLook] at h; cases h
  | k + 1, st, p, F, h, K, hK => by
    obtain ⟨K', rfl⟩ : ∃ K', K = K' + 1 := ⟨K - 1, by omega⟩
    rw [gLook] at h ⊢
    split at h
    · rename_i l nx h1 h2
      try simp only [h1, h2]
      split at h
      · rename_i c to h3
        try simp only [h3]
        exact gLook_mono g k _ _ F h K' (by omega)
      · rename_i c h3
        try simp only [h3]
        split at h
        · cases h
        · rename_i h4
          try simp only [h4]
          exact h
        · rename_i b h4
          try simp only [h4]
          exact gLook_mono g k _ _ F h K' (by omega)
    · cases h

def dFrom (g : List (List Int)) (k : Nat) (d : GD) (p : Nat) : Option GD := match g[p]? with
  | none => none
  | some l => match dScan g k ⟨d.shut.set p true, d.wby, d.met ++ [p], d.left⟩ p l with
    | none => none
    | some d1 => some ⟨d1.shut, d1.wby, d1.met, d1.left ++ [p]⟩

/-- A walk's from is the one that calls itself. -/
theorem gFrom_d (g : List (List Int)) (k K : Nat) (st F : GW) (d2 : GD) (p : Nat) (h : dFrom g k st.gd p = some d2) (hK : gFrom g K st p = some F) (hW : WLen g.length st) (hp : p < g.length) (hu : st.shut[p]? = some false) (hb : st.wby[p]? = some none) (hz : ∀ q : Nat, st.shut[q]? = some false → st.next[q]? = some 0) :
    F.gd = d2 ∧ WLen g.length F ∧ (∀ q : Nat, F.shut[q]? = some false → F.next[q]? = some 0) ∧ (∀ q : Nat, st.shut[q]? = some true → F.wby[q]? = st.wby[q]?) := by
  unfold dFrom at h
  split at h
  · cases h
  · rename_i L hL
    split at h
    · cases h
    · rename_i d1 h1
      injection h with h
      subst h
      obtain ⟨j, s1, a1, a2, ⟨nx1, a3, a3'⟩, a4, a5, a6⟩ := dScan_sim g k _ _ _ _ h1 ⟨st.shut.set p true, st.next, st.wby, st.met ++ [p], st.left⟩ 0 L rfl hL (hz p hu) rfl (by simp only [List.getElem?_set]; simp [hW.sh, hp]) ⟨by simp [hW.sh], hW.nx, hW.wb⟩
        (fun q hq => by
          simp only [List.getElem?_set] at hq
          split at hq
          · split at hq
            · cases hq
            · cases hq
          · exact hz q hq)
      have hps := a6 p (by simp only [List.getElem?_set]; simp [hW.sh, hp])
      have hb1 : s1.wby[p]? = some none := by rw [hps.2.1]; exact hb
      have e1 : gLook g 1 s1 p = some ⟨s1.shut, s1.next.set p nx1, s1.wby, s1.met, s1.left ++ [p]⟩ := by
        rw [gLook, hL, a3]
        simp only
        rw [a3', gScan]
        simp only [hb1, Nat.add_zero]
      unfold gFrom at hK
      have e2 := gLook_mono g K _ _ F hK (K + j + 1) (by omega)
      rw [a1, gLook_mono g 1 _ _ _ e1 (K + 1) (by omega)] at e2
      injection e2 with e2
      subst e2
      refine ⟨by rw [← a2]; rfl, ⟨a4.sh, by simp [a4.nx], a4.wb⟩, fun q hq => ?_, fun q hq => ?_⟩
      · simp only [List.getElem?_set] at hq ⊢
        rw [if_neg (fun e => by rw [← e, hps.1] at hq; cases hq)]
        exact a5 q hq
      · exact (a6 q (shut_set _ _ _ hq)).2.1

theorem dScan_ends (g : List (List Int)) (D : Nat) (hD : ∀ l ∈ g, l.length ≤ D) : ∀ (k : Nat) (d : GD) (p : Nat) (l : List Int), d.shut.length = g.length → unsh d.shut * (D + 2) + l.length + 1 ≤ k →
    ∃ d2, dScan g k d p l = some d2 ∧ d2.shut.length = g.length ∧ unsh d2.shut ≤ unsh d.shut
  | 0, d, p, l, h1, h2 => by omega
  | k + 1, d, p, [], h1, h2 => ⟨d, by rw [dScan], h1, Nat.le_refl _⟩
  | k + 1, d, p, x :: r, h1, h2 => by
    rw [dScan]
    simp only [List.length_cons] at h2
    split
    · rename_i hx
      obtain ⟨hxs, hxn, _⟩ := gOk_lt hx
      have hl := hD _ (List.getElem_mem hxn)
      rw [List.getElem?_eq_getElem hxn]
      simp only
      have hu := unsh_set d.shut x.toNat hxs
      have hm : unsh d.shut * (D + 2) = unsh (d.shut.set x.toNat true) * (D + 2) + (D + 2) := by rw [← hu, Nat.succ_mul]
      obtain ⟨d1, e1, e2, e3⟩ := dScan_ends g D hD k ⟨d.shut.set x.toNat true, d.wby.set x.toNat (some p), d.met ++ [x.toNat], d.left⟩ x.toNat g[x.toNat] (by simp [h1]) (by
        show unsh (d.shut.set x.toNat true) * (D + 2) + _ + 1 ≤ k
        omega)
      simp only [e1]
      have e3' : unsh d1.shut ≤ unsh (d.shut.set x.toNat true) := e3
      have hm2 := Nat.mul_le_mul_right (D + 2) e3'
      obtain ⟨d2, f1, f2, f3⟩ := dScan_ends g D hD k ⟨d1.shut, d1.wby, d1.met, d1.left ++ [x.toNat]⟩ p r e2 (by
        show unsh d1.shut * (D + 2) + _ + 1 ≤ k
        omega)
      exact ⟨d2, f1, f2, by have : unsh d2.shut ≤ unsh d1.shut := f3; omega⟩
    · obtain ⟨d2, f1, f2, f3⟩ := dScan_ends g D hD k d p r h1 (by omega)
      exact ⟨d2, f1, f2, f3⟩

/-- What is shut. -/
theorem dScan_on (g : List (List Int)) : ∀ (k : Nat) (d : GD) (p : Nat) (l : List Int) (d2 : GD), dScan g k d p l = some d2 → d.shut.length = g.length →
    d2.shut.length = g.length ∧ (∀ q : Nat, d.shut[q]? = some true → d2.shut[q]? = some true) ∧ (∀ x ∈ l, gPt g.length x = true → d2.shut[x.toNat]? = some true) ∧
    (∀ q : Nat, d2.shut[q]? = some true → d.shut[q]? = some true ∨ ∀ L, g[q]? = some L → ∀ x ∈ L, gPt g.length x = true → d2.shut[x.toNat]? = some true) ∧
    (∀ R : Nat → Prop, (∀ (a : Nat) (L : List Int) (x : Int), R a → g[a]? = some L → x ∈ L → gPt g.length x = true → d.shut[x.toNat]? = some false → R x.toNat) → (∀ x ∈ l, gPt g.length x = true → d.shut[x.toNat]? = some false → R x.toNat) → ∀ q : Nat, d2.shut[q]? = some true → d.shut[q]? = some true ∨ R q)
  | 0, d, p, l, d2, h, hl => by rw [dScan] at h; cases h
  | k + 1, d, p, [], d2, h, hl => by
    rw [dScan] at h
    injection h with h
    subst h
    exact ⟨hl, fun q hq => hq, fun x hx => by (cases hx), fun q hq => Or.inl hq, fun R _ _ q hq => Or.inl hq⟩
  | k + 1, d, p, x :: r, d2, h, hl => by
    rw [dScan] at h
    split at h
    · rename_i hx
      obtain ⟨hxs, hxn, _⟩ := gOk_lt hx
      split at h
      · cases h
      · rename_i Lx hLx
        split at h
        · cases h
        · rename_i d1 h1
          obtain ⟨a0, a1, a2, a3, a4⟩ := dScan_on g k _ _ _ _ h1 (by simp [hl])
          obtain ⟨b0, b1, b2, b3, b4⟩ := dScan_on g k _ _ _ _ h a0
          simp only at a1 a2 a3 a4 b1 b2 b3 b4
          have hset : ∀ q : Nat, (d.shut.set x.toNat true)[q]? = some true → d.shut[q]? = some true ∨ q = x.toNat := by
            intro q hq
            rw [List.getElem?_set] at hq
            split at hq
            · rename_i e; exact Or.inr e.symm
            · exact Or.inl hq
          have hunset : ∀ q : Nat, (d.shut.set x.toNat true)[q]? = some false → d.shut[q]? = some false := by
            intro q hq
            rw [List.getElem?_set] at hq
            split at hq
            · split at hq
              · cases hq
              · cases hq
            · exact hq
          have hx1 : (d.shut.set x.toNat true)[x.toNat]? = some true := by rw [List.getElem?_set]; simp [hl, hxn]
          have hun1 : ∀ q : Nat, d1.shut[q]? = some false → d.shut[q]? = some false := by
            intro q hq
            have hql : q < g.length := by have := (List.getElem?_eq_some_iff.1 hq).1; omega
            cases hc : (d.shut.set x.toNat true)[q]? with
            | none => rw [List.getElem?_eq_none_iff] at hc; simp [hl] at hc; omega
            | some b => cases b with
              | false => exact hunset q hc
              | true => rw [a1 q hc] at hq; cases hq
          refine ⟨b0, fun q hq => b1 q (a1 q (shut_set _ _ _ hq)), fun y hy hp => ?_, fun q hq => ?_, fun R hR hr q hq => ?_⟩
          · rcases List.mem_cons.1 hy with e | e
            · rw [e]; exact b1 _ (a1 _ hx1)
            · exact b2 y e hp
          · rcases b3 q hq with e | e
            · rcases a3 q e with f | f
              · rcases hset q f with f | f
                · exact Or.inl f
                · refine Or.inr (fun L hL y hy hp => b1 _ ?_)
                  rw [f, hLx] at hL
                  injection hL with hL
                  subst hL
                  exact a2 y hy hp
              · exact Or.inr (fun L hL y hy hp => b1 _ (f L hL y hy hp))
            · exact Or.inr e
          · have hRx : R x.toNat := hr x (List.mem_cons_self ..) (by unfold gOk at hx; simp only [Bool.and_eq_true] at hx; exact hx.1) hxs
            rcases b4 R (fun a L y ha hL hy hp hf => hR a L y ha hL hy hp (hun1 _ hf)) (fun y hy hp hf => hr y (List.mem_cons_of_mem _ hy) hp (hun1 _ hf)) q hq with e | e
            · rcases a4 R (fun a L y ha hL hy hp hf => hR a L y ha hL hy hp (hunset _ hf)) (fun y hy hp hf => hR x.toNat Lx y hRx hLx hy hp (hunset _ hf)) q e with f | f
              · rcases hset q f with f | f
                · exact Or.inl f
                · exact Or.inr (by rw [f]; exact hRx)
              · exact Or.inr f
            · exact Or.inr e
    · rename_i hx
      obtain ⟨b0, b1, b2, b3, b4⟩ := dScan_on g k _ _ _ _ h hl
      refine ⟨b0, b1, fun y hy hp => ?_, b3, fun R hR hr q hq => b4 R hR (fun y hy => hr y (List.mem_cons_of_mem _ hy)) q hq⟩
      rcases List.mem_cons.1 hy with e | e
      · subst e
        refine b1 _ ?_
        cases hc : d.shut[y.toNat]? with
        | none =>
          rw [List.getElem?_eq_none_iff] at hc
          unfold gPt at hp
          simp at hp
          omega
        | some b => cases b with
          | true => rfl
          | false => exact absurd (by unfold gOk; rw [hp, hc]; rfl) hx
      · exact b2 y e hp
end Go.Proofs.Ytpfjafjpijmckaa
