/- Plain: Doms tells immediate dominators. -/
import Derived.Test.YtmhcecofknemkaaGrDc
set_option linter.unusedSimpArgs false
set_option linter.unusedVariables false
namespace Go.Proofs.Ytmhcecofknemkaa
open Go.RowKit

theorem nodup_len : ∀ (n : Nat) (l : List Nat), l.Nodup → (∀ x ∈ l, x < n) → l.length ≤ n
  | 0, l, _, h => by
    cases l with
    | nil => simp
    | cons a r => exact absurd (h a (List.mem_cons_self ..)) (by omega)
  | n + 1, l, hn, h => by
    by_cases hm : n ∈ l
    · have h1 := nodup_len n (l.erase n) (hn.erase n) (fun x hx => by
        rw [hn.mem_erase_iff] at hx
        have := h x hx.2
        omega)
      rw [List.length_erase_of_mem hm] at h1
      omega
    · have h1 := nodup_len n l hn (fun x hx => by
        have := h x hx
        have : x ≠ n := fun e => hm (by rw [← e]; exact hx)
        omega)
      omega

section
variable {g : List (List Int)} {M : List Nat} {wb : List (Option Nat)} {ent : List Nat}
theorem Dom.refl (x : Nat) : Dom g x x := fun h => h.ne rfl
theorem Av.or {a b z : Nat} (h : Av g a z) : Av g b z ∨ Av g a b := by
  induction h with
  | zero h0 =>
    by_cases e : 0 = b
    · subst e; exact Or.inr (.zero h0)
    · exact Or.inl (.zero e)
  | @step y z hy hE hne ih =>
    rcases ih with e | e
    · by_cases e2 : z = b
      · subst e2; exact Or.inr (.step hy hE hne)
      · exact Or.inl (.step e hE e2)
    · exact Or.inr e
theorem Dom.trans {a b c : Nat} (h : Dom g a b) (k : Dom g b c) : Dom g a c := fun ha => (ha.or (b := b)).elim k h

/-- What is known of the dominators of the first numbers. -/
structure DmI (g : List (List Int)) (M : List Nat) (i : Nat) (d : List (Option Nat)) : Prop where
  len : d.length = g.length
  ok : ∀ (j w : Nat), 0 < j → j < i → M[j]? = some w → ∃ q nq : Nat, d[w]? = some (some q) ∧ M[nq]? = some q ∧ nq < j ∧ Dom g q w ∧ ∀ (x nx : Nat), M[nx]? = some x → Dom g x w → x ≠ w → Dom g x q
  no : ∀ x : Nat, x < g.length → (∀ j : Nat, 0 < j → j < i → M[j]? ≠ some x) → d[x]? = some none
theorem gDomUp_ok (D : DfsF g M wb) (d : List (Option Nat)) (i e : Nat) (hd : DmI g M i d) : ∀ (k np p : Nat), np < k → np < i → M[np]? = some p → ∃ q nq : Nat, gDomUp (gPlaces g.length M) d e k p = some q ∧ M[nq]? = some q ∧ nq ≤ e ∧ Dom g q p ∧ ∀ (x nx : Nat), M[nx]? = some x → nx ≤ e → Dom g x p → Dom g x q
  | 0, np, p, h, _, _ => by omega
  | k + 1, np, p, hk, hi, hp => by
    rw [gDomUp, gPlaces_at D.nd D.lt hp]
    simp only
    split
    · rename_i h
      simp only [oI] at h
      obtain ⟨q, nq, a1, a2, a3, a4, a5⟩ := hd.ok np p (by omega) hi hp
      rw [a1]
      simp only
      obtain ⟨q2, nq2, b1, b2, b3, b4, b5⟩ := gDomUp_ok D d i e hd k nq q (by omega) (by omega) a2
      refine ⟨q2, nq2, b1, b2, b3, b4.trans a4, fun x nx hx hle hdom => b5 x nx hx hle (a5 x nx hx hdom (fun e2 => ?_))⟩
      subst e2
      have := nd_inj D.nd hx hp
      omega
    · rename_i h
      simp only [oI] at h
      exact ⟨p, np, rfl, hp, by omega, Dom.refl p, fun x nx _ _ hdom => hdom⟩
theorem gDomL_ok (D : DfsF g M wb) (F : EntF g M wb ent) (hE : ent.length = M.length) (K : Nat) (hK : M.length ≤ K) : ∀ (c i : Nat) (d : List (Option Nat)), M.length - i ≤ c → 0 < i → DmI g M i d → ∃ d', gDomL K wb (gPlaces g.length M) (M.drop i) (ent.drop i) d = some d' ∧ DmI g M M.length d'
  | 0, i, d, hc, h0, hd => by
    rw [List.drop_of_length_le (by omega)]
    refine ⟨d, by rw [gDomL], hd.len, fun j w h1 h2 h3 => hd.ok j w h1 (by omega) h3, fun x hx h => hd.no x hx (fun j h1 h2 e => ?_)⟩
    exact h j h1 (List.getElem?_eq_some_iff.1 e).1 e
  | c + 1, i, d, hc, h0, hd => by
    by_cases hi : i < M.length
    · have hw : M[i]? = some M[i] := List.getElem?_eq_getElem hi
      have he : ent[i]? = some (ent[i]'(by omega)) := List.getElem?_eq_getElem _
      rw [List.drop_eq_getElem_cons hi, List.drop_eq_getElem_cons (by omega : i < ent.length)]
      generalize M[i] = w at hw
      generalize ent[i]'(by omega) = e at he
      obtain ⟨p, np, w1, w2, w3, w4, w5, w6⟩ := D.up hw h0
      obtain ⟨q, nq, b1, b2, b3, b4, b5⟩ := gDomUp_ok D d i e hd K np p (by omega) w3 w2
      rw [gDomL, w1]
      simp only [b1]
      have hwn := D.lt w (List.mem_of_getElem? hw)
      have hei := F.le i e h0 hi he
      refine gDomL_ok D F hE K hK c (i + 1) (d.set w (some q)) (by omega) (by omega) ⟨by simp [hd.len], fun j w2' h1 h2 h3 => ?_, fun x hx h => ?_⟩
      · by_cases ej : j = i
        · subst ej
          rw [hw] at h3
          injection h3 with h3
          subst h3
          have hq := (dom_iff D F b2 hw h0 he w2 w1).2 ⟨b4, b3⟩
          exact ⟨q, nq, by rw [List.getElem?_set_self (by rw [hd.len]; exact hwn)], b2, by omega, hq.1, fun x nx hx hdx hne => by
            have := (dom_iff D F hx hw h0 he w2 w1).1 ⟨hdx, hne⟩
            exact b5 x nx hx this.2 this.1⟩
        · obtain ⟨q2, nq2, c1, c2, c3, c4, c5⟩ := hd.ok j w2' h1 (by omega) h3
          refine ⟨q2, nq2, ?_, c2, c3, c4, c5⟩
          rw [List.getElem?_set, if_neg]
          · exact c1
          · rintro rfl
            have := nd_inj D.nd h3 hw
            omega
      · rw [List.getElem?_set, if_neg]
        · exact hd.no x hx (fun j h1 h2 => h j h1 (by omega))
        · rintro rfl
          exact h i h0 (by omega) hw
    · rw [List.drop_of_length_le (by omega)]
      refine ⟨d, by rw [gDomL], hd.len, fun j w h1 h2 h3 => hd.ok j w h1 (by omega) h3, fun x hx h => hd.no x hx (fun j h1 h2 e => ?_)⟩
      exact h j h1 (List.getElem?_eq_some_iff.1 e).1 e
end
/-- Doms. -/
theorem gDoms_ok (g : List (List Int)) (K : Nat) (F : GW) (hn : g.length ≠ 0) (h : gWalk g K = some F) (hK : g.length ≤ K) : ∃ d, gDoms g K = some d ∧ DmI g F.met F.met.length d := by
  obtain ⟨D, hs, hW⟩ := gWalk_dfs g K F hn h
  have hM := nodup_len g.length F.met D.nd D.lt
  obtain ⟨c, c1, c2, c3, c4⟩ := gClimb_ok D K (by omega) (gPreds g) (gPreds_len g) (gPreds_lt g)
  have E := entF_of D c4
  have h1 := (List.getElem?_eq_some_iff.1 D.zero).1
  obtain ⟨d, d1, d2⟩ := gDomL_ok D E c2 K (by omega) F.met.length 1 (List.replicate g.length none) (by omega) (by omega) ⟨by simp, fun j w h1 h2 => by omega, fun x hx _ => by rw [List.getElem?_replicate, if_pos hx]⟩
  refine ⟨d, ?_, d2⟩
  unfold gDoms
  rw [h]
  simp only [c1, c3]
  exact d1
theorem gDoms_nil (g : List (List Int)) (K : Nat) (hn : g.length = 0) : gDoms g K = some [] := by
  have hg : g = [] := List.length_eq_zero_iff.1 hn
  subst hg
  unfold gDoms gWalk
  simp [gNew, gClimb, gCls, gDomL]

/-- By the document's way. -/
theorem av_way (g : List (List Int)) (x z : Nat) : Av g x z ↔ (0 ≠ x ∧ Way (gNorm g) (x : Int) 0 z) := by
  constructor
  · intro h
    induction h with
    | zero h0 => exact ⟨h0, .nil⟩
    | step _ e hne ih =>
      obtain ⟨l, e1, e2⟩ := (edg_norm g _ _).1 e
      exact ⟨ih.1, .step ih.2 e1 e2 (by omega)⟩
  · rintro ⟨h0, h⟩
    induction h with
    | nil => exact .zero h0
    | step _ e1 e2 e3 ih => exact .step ih ((edg_norm g _ _).2 ⟨_, e1, e2⟩) (by omega)
end Go.Proofs.Ytmhcecofknemkaa
