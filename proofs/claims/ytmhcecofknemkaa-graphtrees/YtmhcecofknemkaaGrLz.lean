/- Plain: the walk down the dominators; whether one point dominates another one, by places. -/
import Derived.Test.YtmhcecofknemkaaGrDz
set_option linter.unusedSimpArgs false
set_option linter.unusedVariables false
namespace Go.Proofs.Ytmhcecofknemkaa
open Go.RowKit

theorem gKid_ok : ∀ (d : List (Option Nat)) (i : Nat) (ks : List (List Nat)), (∀ a, some a ∈ d → a < ks.length) → ∃ ks', gKid d i ks = some ks' ∧ ks'.length = ks.length ∧ ∀ a y : Nat, (y ∈ ks'.getD a [] ↔ (y ∈ ks.getD a [] ∨ ∃ j : Nat, d[j]? = some (some a) ∧ y = i + j))
  | [], i, ks, h => ⟨ks, rfl, rfl, fun a y => by simp⟩
  | none :: r, i, ks, h => by
    obtain ⟨ks', h1, h2, h3⟩ := gKid_ok r (i + 1) ks (fun a ha => h a (List.mem_cons_of_mem _ ha))
    refine ⟨ks', by rw [gKid]; exact h1, h2, fun a y => (h3 a y).trans ⟨?_, ?_⟩⟩
    · rintro (e | ⟨j, e1, e2⟩)
      · exact Or.inl e
      · exact Or.inr ⟨j + 1, by simpa using e1, by omega⟩
    · rintro (e | ⟨j, e1, e2⟩)
      · exact Or.inl e
      · cases j with
        | zero => simp at e1
        | succ j => exact Or.inr ⟨j, by simpa using e1, by omega⟩
  | some b :: r, i, ks, h => by
    have hb := h b (List.mem_cons_self ..)
    obtain ⟨ks', h1, h2, h3⟩ := gKid_ok r (i + 1) (ks.set b (ks[b] ++ [i])) (fun a ha => by rw [List.length_set]; exact h a (List.mem_cons_of_mem _ ha))
    refine ⟨ks', by rw [gKid, List.getElem?_eq_getElem hb]; exact h1, by rw [h2, List.length_set], fun a y => (h3 a y).trans ?_⟩
    rw [getD_set _ _ _ _ hb]
    by_cases e : b = a
    · subst e
      rw [if_pos rfl, List.getD_eq_getElem?_getD, List.getElem?_eq_getElem hb, Option.getD_some, List.mem_append, List.mem_singleton]
      constructor
      · rintro ((e | e) | ⟨j, e1, e2⟩)
        · exact Or.inl e
        · exact Or.inr ⟨0, rfl, by omega⟩
        · exact Or.inr ⟨j + 1, by simpa using e1, by omega⟩
      · rintro (e | ⟨j, e1, e2⟩)
        · exact Or.inl (Or.inl e)
        · cases j with
          | zero => exact Or.inl (Or.inr (by omega))
          | succ j => exact Or.inr ⟨j, by simpa using e1, by omega⟩
    · rw [if_neg e]
      constructor
      · rintro (e | ⟨j, e1, e2⟩)
        · exact Or.inl e
        · exact Or.inr ⟨j + 1, by simpa using e1, by omega⟩
      · rintro (e2 | ⟨j, e1, e2⟩)
        · exact Or.inl e2
        · cases j with
          | zero => simp at e1; exact absurd e1 e
          | succ j => exact Or.inr ⟨j, by simpa using e1, by omega⟩
theorem edg_up (ks : List (List Nat)) (hp : Pts ks) (a y : Nat) : EdgG (gUpG ks) a y ↔ y ∈ ks.getD a [] := by
  constructor
  · rintro ⟨L, x, hL, hx, hpt, rfl⟩
    unfold gUpG at hL
    rw [List.getElem?_map] at hL
    cases hk : ks[a]? with
    | none => rw [hk] at hL; cases hL
    | some l =>
      rw [hk] at hL
      injection hL with hL
      subst hL
      obtain ⟨z, hz, rfl⟩ := List.mem_map.1 hx
      rw [List.getD_eq_getElem?_getD, hk]
      simpa using hz
  · intro h
    rw [List.getD_eq_getElem?_getD] at h
    cases hk : ks[a]? with
    | none => rw [hk] at h; cases h
    | some l =>
      rw [hk] at h
      simp only [Option.getD_some] at h
      have := hp l (List.mem_of_getElem? hk) y h
      refine ⟨l.map (fun (x : Nat) => (x : Int)), (y : Int), by unfold gUpG; rw [List.getElem?_map, hk]; rfl, List.mem_map.2 ⟨y, h, rfl⟩, ?_, by simp⟩
      unfold gPt gUpG
      simp
      exact this

/-- What the walk down the dominators tells. -/
structure DtF (g : List (List Int)) (M : List Nat) (d : List (Option Nat)) (W : GW) : Prop where
  nd : W.met.Nodup
  mm : ∀ x, x ∈ W.met ↔ x ∈ M
  dm : ∀ h p : Nat, h ∈ M → p < g.length → ∃ b, gDm ⟨gPreds g, gPlaces g.length W.met, gPlaces g.length W.left⟩ h p = some b ∧ (b = true ↔ (p ∈ M ∧ Dom g h p))
  od : ∀ i j a b : Nat, W.met[i]? = some a → W.met[j]? = some b → Dom g a b → i ≤ j
theorem dtree (g : List (List Int)) (K : Nat) (F : GW) (d : List (Option Nat)) (hn : g.length ≠ 0) (hF : gWalk g K = some F) (hd : DmI g F.met F.met.length d) (hK : 2 * g.length + 1 ≤ K) : ∃ ks W, gKids d = some ks ∧ gWalk (gUpG ks) K = some W ∧ DtF g F.met d W := by
  obtain ⟨D, _, _⟩ := gWalk_dfs g K F hn hF
  have hmem : ∀ x q : Nat, d[x]? = some (some q) → ∃ j : Nat, 0 < j ∧ F.met[j]? = some x := fun x q hx => by
    have hxn : x < g.length := by have := (List.getElem?_eq_some_iff.1 hx).1; rw [hd.len] at this; exact this
    refine Classical.byContradiction fun hc => ?_
    rw [hd.no x hxn (fun j h1 _ e => hc ⟨j, h1, e⟩)] at hx
    cases hx
  have hdlt : ∀ x q : Nat, d[x]? = some (some q) → x ∈ F.met ∧ q ∈ F.met ∧ Dom g q x ∧ q ≠ x := fun x q hx => by
    obtain ⟨j, h1, h2⟩ := hmem x q hx
    obtain ⟨q2, nq, e1, e2, e3, e4, e5⟩ := hd.ok j x h1 (List.getElem?_eq_some_iff.1 h2).1 h2
    rw [hx] at e1
    injection e1 with e1
    injection e1 with e1
    subst e1
    refine ⟨List.mem_of_getElem? h2, List.mem_of_getElem? e2, e4, fun e => ?_⟩
    subst e
    have := nd_inj D.nd e2 h2
    omega
  obtain ⟨ks, k1, k2, k3⟩ := gKid_ok d 0 (List.replicate d.length []) (fun a ha => by
    obtain ⟨x, hx⟩ := List.getElem?_of_mem ha
    rw [List.length_replicate, hd.len]
    exact D.lt a (hdlt x a hx).2.1)
  have hkl : ks.length = g.length := by rw [k2, List.length_replicate, hd.len]
  have k4 : ∀ a y : Nat, y ∈ ks.getD a [] ↔ d[y]? = some (some a) := fun a y => by
    rw [k3]
    constructor
    · rintro (e | ⟨j, e1, e2⟩)
      · rw [List.getD_eq_getElem?_getD, List.getElem?_replicate] at e
        split at e <;> cases e
      · rw [show y = j by omega]; exact e1
    · intro e
      exact Or.inr ⟨y, e, by omega⟩
  have hpts : Pts ks := fun l hl q hq => by
    obtain ⟨a, ha⟩ := List.getElem?_of_mem hl
    have : q ∈ ks.getD a [] := by rw [List.getD_eq_getElem?_getD, ha]; exact hq
    rw [hkl, ← hd.len]
    exact (List.getElem?_eq_some_iff.1 ((k4 a q).1 this)).1
  have hul : (gUpG ks).length = g.length := by unfold gUpG; rw [List.length_map, hkl]
  obtain ⟨W, hW, _⟩ := gWalk_ends (gUpG ks) K (by rw [hul]; exact hK)
  obtain ⟨⟨D2, _, _⟩, l1, l2, l3, l4⟩ := gWalk_dfl (gUpG ks) K W (by rw [hul]; exact hn) hW
  have hedge : ∀ a y, EdgG (gUpG ks) a y ↔ d[y]? = some (some a) := fun a y => (edg_up ks hpts a y).trans (k4 a y)
  have hwb : ∀ x y : Nat, x ∈ W.met → W.wby[x]? = some (some y) → d[x]? = some (some y) := fun x y hx hy => by
    obtain ⟨i, hi⟩ := List.getElem?_of_mem hx
    rcases D2.par i x hi with e | ⟨y2, j, e1, e2, e3, e4⟩
    · subst e
      rw [D2.zero] at hi
      injection hi with hi
      subst hi
      rw [D2.root] at hy
      cases hy
    · rw [hy] at e1
      injection e1 with e1
      injection e1 with e1
      subst e1
      exact (hedge y x).1 e4
  have hm1 : ∀ i x : Nat, W.met[i]? = some x → x ∈ F.met := fun i x hi => by
    rcases D2.par i x hi with e | ⟨y2, j, e1, e2, e3, e4⟩
    · subst e
      rw [D2.zero] at hi
      injection hi with hi
      subst hi
      exact List.mem_of_getElem? D.zero
    · exact (hdlt x y2 ((hedge y2 x).1 e4)).1
  have hm2 : ∀ i x : Nat, F.met[i]? = some x → x ∈ W.met := by
    intro i
    induction i using Nat.strongRecOn with
    | _ i ih =>
      intro x hx
      by_cases h0 : i = 0
      · subst h0
        rw [D.zero] at hx
        injection hx with hx
        subst hx
        exact List.mem_of_getElem? D2.zero
      · obtain ⟨q, nq, e1, e2, e3, _⟩ := hd.ok i x (by omega) (List.getElem?_eq_some_iff.1 hx).1 hx
        obtain ⟨j, hj⟩ := List.getElem?_of_mem (ih nq e3 q e2)
        obtain ⟨j2, hj2, _⟩ := D2.ed j q x hj ((hedge q x).2 e1)
        exact List.mem_of_getElem? hj2
  have hmm : ∀ x, x ∈ W.met ↔ x ∈ F.met := fun x => ⟨fun h => by obtain ⟨i, hi⟩ := List.getElem?_of_mem h; exact hm1 i x hi, fun h => by obtain ⟨i, hi⟩ := List.getElem?_of_mem h; exact hm2 i x hi⟩
  have up_dom : ∀ a b, Up W.wby a b → b ∈ W.met → Dom g a b := by
    intro a b h
    induction h with
    | refl => intro _; exact Dom.refl a
    | @step x y _ e ih =>
      intro hx
      have := hdlt x y (hwb x y hx e)
      exact (ih ((hmm y).2 this.2.1)).trans this.2.2.1
  have dom_up : ∀ (j a b : Nat), F.met[j]? = some b → a ∈ F.met → Dom g a b → Up W.wby a b := by
    intro j
    induction j using Nat.strongRecOn with
    | _ j ih =>
      intro a b hb ha hdom
      by_cases e : a = b
      · subst e; exact .refl
      · by_cases h0 : j = 0
        · subst h0
          rw [D.zero] at hb
          injection hb with hb
          subst hb
          exact absurd (Av.zero (Ne.symm e)) hdom
        · obtain ⟨q, nq, e1, e2, e3, e4, e5⟩ := hd.ok j b (by omega) (List.getElem?_eq_some_iff.1 hb).1 hb
          obtain ⟨na, hna⟩ := List.getElem?_of_mem ha
          have hup := ih nq e3 a q e2 ha (e5 a na hna hdom e)
          obtain ⟨i, hi⟩ := List.getElem?_of_mem (hm2 j b hb)
          rcases D2.par i b hi with f | ⟨y2, j2, f1, f2, f3, f4⟩
          · subst f
            rw [D2.zero] at hi
            injection hi with hi
            subst hi
            have := nd_inj D.nd hb D.zero
            omega
          · have := (hedge y2 b).1 f4
            rw [e1] at this
            injection this with this
            injection this with this
            subst this
            exact .step hup f1
  have hlt2 : ∀ p ∈ W.met, p < g.length := fun p hp => D.lt p ((hmm p).1 hp)
  have hltl : ∀ p ∈ W.left, p < g.length := fun p hp => hlt2 p ((l1 p).1 hp)
  have down : ∀ a b, Up W.wby a b → b ∈ W.met → ∀ i j : Nat, W.left[i]? = some a → W.left[j]? = some b → j ≤ i := by
    intro a b h
    induction h with
    | refl => intro _ i j hi hj; rw [nd_inj l2 hi hj]; exact Nat.le_refl _
    | @step x y hu e ih =>
      intro hx i j hi hj
      have hdx := hwb x y hx e
      have hym : y ∈ W.met := (hmm y).2 (hdlt x y hdx).2.1
      obtain ⟨t, ht⟩ := List.getElem?_of_mem ((l1 y).2 hym)
      have h1 := ih hym i t hi ht
      rcases l3 t y ht x ((hedge y x).2 hdx) with ⟨j2, j3, j4⟩ | hr
      · have := nd_inj l2 hj j4
        omega
      · exfalso
        have : Dom g x y := by
          have hR : ∀ c, Rch (EdgG (gUpG ks)) x c → Dom g x c := by
            intro c hc
            induction hc with
            | nil => exact Dom.refl x
            | step _ e2 ih2 => exact ih2.trans (hdlt _ _ ((hedge _ _).1 e2)).2.2.1
          exact hR y hr
        have h3 := hdlt x y hdx
        exact h3.2.2.2 (dom_eq D h3.2.1 h3.1 h3.2.2.1 this)
  refine ⟨ks, W, k1, hW, D2.nd, hmm, fun h p hh hp => ?_, fun i j a b hi hj hdom => ?_⟩
  · have hhn := D.lt h hh
    obtain ⟨fh, hfh⟩ := List.getElem?_of_mem ((hmm h).2 hh)
    obtain ⟨lh, hlh⟩ := List.getElem?_of_mem ((l1 h).2 ((hmm h).2 hh))
    have a1 := gPlaces_at D2.nd hlt2 hfh
    have a2 := gPlaces_at l2 hltl hlh
    by_cases hpm : p ∈ F.met
    · obtain ⟨fp, hfp⟩ := List.getElem?_of_mem ((hmm p).2 hpm)
      obtain ⟨lp, hlp⟩ := List.getElem?_of_mem ((l1 p).2 ((hmm p).2 hpm))
      have a3 := gPlaces_at D2.nd hlt2 hfp
      have a4 := gPlaces_at l2 hltl hlp
      refine ⟨decide (oI (some fh) ≤ oI (some fp)) && decide (oI (some lp) ≤ oI (some lh)), by unfold gDm; simp only [a1, a2, a3, a4], ?_⟩
      simp only [show ∀ t : Nat, oI (some t) = (t : Int) from fun _ => rfl, show oI none = -1 from rfl, Bool.and_eq_true, decide_eq_true_eq]
      constructor
      · rintro ⟨q1, q2⟩
        exact ⟨hpm, up_dom h p (l4 lh lp h p fh fp hlh hlp (by omega) hfh hfp (by omega)) ((hmm p).2 hpm)⟩
      · rintro ⟨_, q2⟩
        obtain ⟨np, hnp⟩ := List.getElem?_of_mem hpm
        have hu := dom_up np h p hnp hh q2
        have b1 := D2.le hu hfh hfp
        have b2 := down h p hu ((hmm p).2 hpm) lh lp hlh hlp
        omega
    · have a3 := gPlaces_not D2.nd hlt2 (fun e => hpm ((hmm p).1 e)) hp
      have a4 := gPlaces_not l2 hltl (fun e => hpm ((hmm p).1 ((l1 p).1 e))) hp
      refine ⟨decide (oI (some fh) ≤ oI none) && decide (oI none ≤ oI (some lh)), by unfold gDm; simp only [a1, a2, a3, a4], ?_⟩
      simp only [show ∀ t : Nat, oI (some t) = (t : Int) from fun _ => rfl, show oI none = -1 from rfl, Bool.and_eq_true, decide_eq_true_eq]
      exact ⟨fun h => by omega, fun h => absurd h.1 hpm⟩
  · obtain ⟨nb, hnb⟩ := List.getElem?_of_mem ((hmm b).1 (List.mem_of_getElem? hj))
    exact D2.le (dom_up nb a b hnb ((hmm a).1 (List.mem_of_getElem? hi)) hdom) hi hj
end Go.Proofs.Ytmhcecofknemkaa

/- Plain: a tree: its dominators, its order, no circle and no loop. -/
set_option linter.unusedSimpArgs false
set_option linter.unusedVariables false
namespace Go.Proofs.Ytmhcecofknemkaa
open Go.RowKit

/-- Lists that lead from each to those below it. -/
structure TrG (n : Nat) (up : Nat → Nat) (ls : List (List Nat)) : Prop where
  len : ls.length = n
  lt : ∀ i, 0 < i → i < n → up i < i
  mem : ∀ a y : Nat, y ∈ ls.getD a [] ↔ (0 < y ∧ y < n ∧ up y = a)
section
variable {n : Nat} {up : Nat → Nat} {ls : List (List Nat)}
theorem TrG.pts (T : TrG n up ls) : Pts ls := fun l hl q hq => by
  obtain ⟨a, ha⟩ := List.getElem?_of_mem hl
  have : q ∈ ls.getD a [] := by rw [List.getD_eq_getElem?_getD, ha]; exact hq
  rw [T.len]
  exact ((T.mem a q).1 this).2.1
theorem TrG.edg (T : TrG n up ls) (a y : Nat) : EdgG (gUpG ls) a y ↔ (0 < y ∧ y < n ∧ up y = a) := (edg_up ls T.pts a y).trans (T.mem a y)
theorem TrG.rch (T : TrG n up ls) {R : Nat → Nat → Prop} (hR : ∀ a b, R a b → EdgG (gUpG ls) a b) {a b : Nat} (h : Rch R a b) : a ≤ b := by
  induction h with
  | nil => exact Nat.le_refl _
  | step _ e ih =>
    obtain ⟨h1, h2, h3⟩ := (T.edg _ _).1 (hR _ _ e)
    have := T.lt _ h1 h2
    omega
theorem gUpG_l (ls : List (List Nat)) : (gUpG ls).length = ls.length := by simp [gUpG]
theorem TrG.all (T : TrG n up ls) {M : List Nat} {wb : List (Option Nat)} (D : DfsF (gUpG ls) M wb) : ∀ x, x < n → x ∈ M := by
  intro x
  induction x using Nat.strongRecOn with
  | _ x ih =>
    intro hx
    by_cases h0 : x = 0
    · subst h0; exact List.mem_of_getElem? D.zero
    · have hu := T.lt x (by omega) hx
      obtain ⟨i, hi⟩ := List.getElem?_of_mem (ih (up x) hu (by omega))
      obtain ⟨j, hj, _⟩ := D.ed i (up x) x hi ((T.edg _ _).2 ⟨by omega, hx, rfl⟩)
      exact List.mem_of_getElem? hj
theorem TrG.dom (T : TrG n up ls) (x : Nat) (h0 : 0 < x) : Dom (gUpG ls) (up x) x := by
  intro h
  cases h with
  | zero _ => omega
  | step ha hE _ =>
    obtain ⟨_, _, e⟩ := (T.edg _ _).1 hE
    exact ha.ne e.symm
theorem dom_zero {g : List (List Int)} (x : Nat) : Dom g 0 x := by
  intro h
  induction h with
  | zero h => exact h rfl
  | step _ _ _ ih => exact ih
/-- The dominator of each is the one that leads to it. -/
theorem TrG.doms (T : TrG n up ls) {M : List Nat} {wb : List (Option Nat)} (D : DfsF (gUpG ls) M wb) (d : List (Option Nat)) (hd : DmI (gUpG ls) M M.length d) (x : Nat) (hx : x < n) : d[x]? = some (if x = 0 then none else some (up x)) := by
  have hul : (gUpG ls).length = n := by rw [gUpG_l, T.len]
  by_cases h0 : x = 0
  · subst h0
    rw [if_pos rfl]
    exact hd.no 0 (by rw [hul]; exact hx) (fun j h1 _ e => by have := nd_inj D.nd e D.zero; omega)
  · rw [if_neg h0]
    obtain ⟨j, hj⟩ := List.getElem?_of_mem (T.all D x hx)
    have hj0 : 0 < j := by
      rcases Nat.eq_zero_or_pos j with e | e
      · subst e
        rw [D.zero] at hj
        injection hj with hj
        omega
      · exact e
    obtain ⟨q, nq, q1, q2, q3, q4, q5⟩ := hd.ok j x hj0 (List.getElem?_eq_some_iff.1 hj).1 hj
    have hu := T.lt x (by omega) hx
    have hum := T.all D (up x) (by omega)
    obtain ⟨nu, hnu⟩ := List.getElem?_of_mem hum
    have h1 := q5 (up x) nu hnu (T.dom x (by omega)) (by omega)
    have hqx : q ≠ x := fun e => by
      subst e
      have := nd_inj D.nd q2 hj
      omega
    have h2 : Dom (gUpG ls) q (up x) := fun ha => q4 (.step ha ((T.edg _ _).2 ⟨by omega, hx, rfl⟩) (Ne.symm hqx))
    rw [q1, dom_eq D (List.mem_of_getElem? q2) hum h2 h1]
theorem sub_len : ∀ (l1 l2 : List Nat), l1.Nodup → (∀ x ∈ l1, x ∈ l2) → l1.length ≤ l2.length
  | [], l2, _, _ => by simp
  | a :: r, l2, hn, h => by
    have hn' := List.nodup_cons.1 hn
    have ha := h a (List.mem_cons_self ..)
    have := sub_len r (l2.erase a) hn'.2 (fun x hx => by
      have hxa : x ≠ a := fun e => hn'.1 (by rw [← e]; exact hx)
      exact (List.mem_erase_of_ne hxa).2 (h x (List.mem_cons_of_mem _ hx)))
    rw [List.length_erase_of_mem ha] at this
    have hp := List.length_pos_of_mem ha
    simp only [List.length_cons]
    omega
/-- Its order. -/
theorem TrG.order (T : TrG n up ls) (K : Nat) (F : GW) (h0 : n ≠ 0) (hF : gWalk (gUpG ls) K = some F) : F.left.length = n ∧ F.left.Nodup ∧ (∀ x ∈ F.left, x < n) ∧ ∀ (i : Nat), 0 < i → i < n → ∃ a b : Nat, F.left[a]? = some i ∧ F.left[b]? = some (up i) ∧ a < b := by
  have hul : (gUpG ls).length = n := by rw [gUpG_l, T.len]
  obtain ⟨⟨D, _, _⟩, l1, l2, l3, l4⟩ := gWalk_dfl (gUpG ls) K F (by rw [hul]; exact h0) hF
  have hlt : ∀ x ∈ F.left, x < n := fun x hx => by have := D.lt x ((l1 x).1 hx); rw [hul] at this; exact this
  refine ⟨?_, l2, hlt, fun i hi hin => ?_⟩
  · have h1 := nodup_len n F.left l2 hlt
    have h2 := sub_len (List.range n) F.left List.nodup_range (fun x hx => (l1 x).2 (T.all D x (List.mem_range.1 hx)))
    rw [List.length_range] at h2
    omega
  · have hu := T.lt i hi hin
    obtain ⟨b, hb⟩ := List.getElem?_of_mem ((l1 _).2 (T.all D (up i) (by omega)))
    rcases l3 b (up i) hb i ((T.edg _ _).2 ⟨hi, hin, rfl⟩) with ⟨a, a1, a2⟩ | hr
    · exact ⟨a, b, a2, hb, a1⟩
    · have := T.rch (fun a b h => h) hr
      omega
/-- No circle. -/
theorem TrG.cyc (T : TrG n up ls) (K : Nat) (F : GW) (hF : gWalk (gUpG ls) K = some F) (hK : 2 * n + 1 ≤ K) : gCyc (gUpG ls) [] K = some false := by
  have hul : (gUpG ls).length = n := by rw [gUpG_l, T.len]
  obtain ⟨b, h1, h2⟩ := gCyc_ends (gUpG ls) [] K F hF (by rw [hul]; exact hK)
  cases b with
  | false => exact h1
  | true =>
    obtain ⟨p, q, e, r⟩ := h2.1 rfl
    have hE : ∀ a b, Edg (gUpG ls) (cSh (gUpG ls).length [] F.shut) a b → EdgG (gUpG ls) a b := by
      rintro a b ⟨L, x, q1, q2, q3, q4, _, _⟩
      exact ⟨L, x, q1, q2, q3, q4⟩
    have h3 := T.rch hE r
    obtain ⟨h4, h5, h6⟩ := (T.edg _ _).1 (hE _ _ e)
    have := T.lt q h4 h5
    omega
end
/-- Where nothing leads back there are no Loops. -/
theorem gFinds_none (K : Nat) (z : GZ) (st : GN) (ho : st.opn = []) (hK : 0 < K) : ∀ (hs : List Nat), (∀ h ∈ hs, ∃ l, z.ps[h]? = some l ∧ ∀ p ∈ l, gDm z h p = some false) → gFinds K z hs st = some st
  | [], _ => rfl
  | h :: r, hh => by
    obtain ⟨l, hl, hp⟩ := hh h (List.mem_cons_self ..)
    have hb : ∀ (l : List Nat), (∀ p ∈ l, gDm z h p = some false) → gBack K h z l st = some st := by
      intro l
      induction l with
      | nil => intro _; rfl
      | cons p t ih => intro hp; rw [gBack, hp p (List.mem_cons_self ..)]; exact ih (fun q hq => hp q (List.mem_cons_of_mem _ hq))
    obtain ⟨k, rfl⟩ : ∃ k, K = k + 1 := ⟨K - 1, by omega⟩
    have hm : gMore (k + 1) h z (k + 1) st = some st := by rw [gMore, ho]; rfl
    rw [gFinds, gFind, hl]
    simp only [hb l hp, hm]
    exact gFinds_none (k + 1) z st ho hK r (fun x hx => hh x (List.mem_cons_of_mem _ hx))
theorem gBods_none (K : Nat) (hK : 0 < K) (n : Nat) (st : GN) (hh : st.heads = List.replicate n false) (ho : st.outer = List.replicate n none) (pl : List (Option Nat)) (ls : List GL) : ∀ (k p : Nat), p + k ≤ n → gBods K st pl k p ls = some ls
  | 0, p, _ => rfl
  | k + 1, p, h => by
    obtain ⟨K', rfl⟩ : ∃ k, K = k + 1 := ⟨K - 1, by omega⟩
    have e1 : gInm st p = some none := by
      unfold gInm
      rw [hh, ho, List.getElem?_replicate, if_pos (by omega), List.getElem?_replicate, if_pos (by omega)]
    rw [gBods, e1]
    simp only [gBod]
    exact gBods_none (K' + 1) hK n st hh ho pl ls k (p + 1) (by omega)
theorem gLoops_none (g : List (List Int)) (K : Nat) (F : GW) (hn : g.length ≠ 0) (hF : gWalk g K = some F) (hK : 2 * g.length + 1 ≤ K) (hno : ∀ h p, EdgG g p h → p ∈ F.met → ¬ Dom g h p) : gLoops g K = some [] := by
  obtain ⟨d, d1, d2⟩ := gDoms_ok g K F hn hF (by omega)
  obtain ⟨ks, W, k1, k2, k3⟩ := dtree g K F d hn hF d2 hK
  obtain ⟨D, _, _⟩ := gWalk_dfs g K F hn hF
  have hfin := gFinds_none K ⟨gPreds g, gPlaces g.length W.met, gPlaces g.length W.left⟩ ⟨List.replicate g.length false, List.replicate g.length none, List.range g.length, []⟩ rfl (by omega) W.met.reverse (fun h hh => by
    have hm : h ∈ F.met := (k3.mm h).1 (List.mem_reverse.1 hh)
    have hhn := D.lt h hm
    obtain ⟨l, hl⟩ : ∃ l, (gPreds g)[h]? = some l := ⟨_, List.getElem?_eq_getElem (by rw [gPreds_len]; exact hhn)⟩
    refine ⟨l, hl, fun p hp => ?_⟩
    have hpn := gPreds_lt g l (List.mem_of_getElem? hl) p hp
    obtain ⟨b, b1, b2⟩ := k3.dm h p hm hpn
    cases b with
    | false => exact b1
    | true =>
      obtain ⟨c1, c2⟩ := b2.1 rfl
      exact absurd c2 (hno h p ((gPreds_mem g h p l hl).1 hp) c1))
  have hnest : gNest g K = some (⟨gPreds g, gPlaces g.length W.met, gPlaces g.length W.left⟩, ⟨List.replicate g.length false, List.replicate g.length none, List.range g.length, []⟩) := by
    unfold gNest
    rw [d1]
    simp only [k1, k2, hfin]
  have hheads : ∀ (m i : Nat) (pl : List (Option Nat)), gHeads (List.replicate m false) i pl [] = (pl, []) := by
    intro m
    induction m with
    | zero => intro i pl; rfl
    | succ m ih => intro i pl; rw [List.replicate_succ, gHeads]; exact ih (i + 1) pl
  unfold gLoops
  rw [hnest]
  simp only [hheads]
  rw [show gIns (List.replicate g.length none) (List.replicate g.length none) ([] : List GL).length 0 [] = some [] from rfl]
  exact gBods_none K (by omega) g.length _ rfl rfl _ _ g.length 0 (by omega)
end Go.Proofs.Ytmhcecofknemkaa
