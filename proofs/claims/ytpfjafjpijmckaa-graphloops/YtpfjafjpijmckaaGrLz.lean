/- Plain: the walk down the dominators; whether one point dominates another one, by places. -/
import Derived.Test.YtpfjafjpijmckaaGrDz
set_option linter.unusedSimpArgs false
set_option linter.unusedVariables false
namespace Go.Proofs.Ytpfjafjpijmckaa
open Go.RowKit

theorem gKid_ok : ∀ (d : List (Option Nat)) (i : Nat) (ks : List (List Nat)), (∀ a, some a ∈ d → a < ks.length) → ∃ ks', gKid d i ks = some ks' ∧ ks'.length = ks.length ∧ ∀ a y : Nat, (y ∈ ks'.getD a [] ↔ (y ∈ ks.getD a [] ∨ ∃ j : Nat, d[j]? = some (some a) ∧ y = i + j))
  | [], i, ks, h => ⟨ks, rfl, rfl, fun a y => by simp⟩
  | none :: r, i, ks, h => by
    obtain ⟨ks', h1, h2, h3⟩ := gKid_ok r (i + 1) ks (fun a ha => h a (List.mem_cons_of_mem _ ha))
    refine ⟨ks', by rw [gKid]; exact h1, h2, fun a y => (h3 a y).trans ⟨?_, ?_⟩⟩
    · rintro (e | ⟨j, e1, e2⟩)
      · exact Or.inl e
      · exact Or.inr ⟨j + 1, by simpa using e1, by omega⟩
    · rintro (e | ⟨j, e1, e2⟩)
      · exact Or.inl e
      · cases j with
        | zero => simp at e1
        | succ j => exact Or.inr ⟨j, by simpa using e1, by omega⟩
  | some b :: r, i, ks, h => by
    have hb := h b (List.mem_cons_self ..)
    obtain ⟨ks', h1, h2, h3⟩ := gKid_ok r (i + 1) (ks.set b (ks[b] ++ [i])) (fun a ha => by rw [List.length_set]; exact h a (List.mem_cons_of_mem _ ha))
    refine ⟨ks', by rw [gKid, List.getElem?_eq_getElem hb]; exact h1, by rw [h2, List.length_set], fun a y => (h3 a y).trans ?_⟩
    rw [getD_set _ _ _ _ hb]
    by_cases e : b = a
    · subst e
      rw [if_pos rfl, List.getD_eq_getElem?_getD, List.getElem?_eq_getElem hb, Option.getD_some, List.mem_append, List.mem_singleton]
      constructor
      · rintro ((e | e) | ⟨j, e1, e2⟩)
        · exact Or.inl e
        · exact Or.inr ⟨0, rfl, by omega⟩
        · exact Or.inr ⟨j + 1, by simpa using e1, by omega⟩
      · rintro (e | ⟨j, e1, e2⟩)
        · exact Or.inl (Or.inl e)
        · cases j with
          | zero => exact Or.inl (Or.inr (by omega))
          | succ j => exact Or.inr ⟨j, by simpa using e1, by omega⟩
    · rw [if_neg e]
      constructor
      · rintro (e | ⟨j, e1, e2⟩)
        · exact Or.inl e
        · exact Or.inr ⟨j + 1, by simpa using e1, by omega⟩
      · rintro (e2 | ⟨j, e1, e2⟩)
        · exact Or.inl e2
        · cases j with
          | zero => simp at e1; exact absurd e1 e
          | succ j => exact Or.inr ⟨j, by simpa using e1, by omega⟩
theorem edg_up (ks : List (List Nat)) (hp : Pts ks) (a y : Nat) : EdgG (gUpG ks) a y ↔ y ∈ ks.getD a [] := by
  constructor
  · rintro ⟨L, x, hL, hx, hpt, rfl⟩
    unfold gUpG at hL
    rw [List.getElem?_map] at hL
    cases hk : ks[a]? with
    | none => rw [hk] at hL; cases hL
    | some l =>
      rw [hk] at hL
      injection hL with hL
      subst hL
      obtain ⟨z, hz, rfl⟩ := List.mem_map.1 hx
      rw [List.getD_eq_getElem?_getD, hk]
      simpa using hz
  · intro h
    rw [List.getD_eq_getElem?_getD] at h
    cases hk : ks[a]? with
    | none => rw [hk] at h; cases h
    | some l =>
      rw [hk] at h
      simp only [Option.getD_some] at h
      have := hp l (List.mem_of_getElem? hk) y h
      refine ⟨l.map (fun (x : Nat) => (x : Int)), (y : Int), by unfold gUpG; rw [List.getElem?_map, hk]; rfl, List.mem_map.2 ⟨y, h, rfl⟩, ?_, by simp⟩
      unfold gPt gUpG
      simp
      exact this

/-- What the walk down the dominators tells. -/
structure DtF (g : List (List Int)) (M : List Nat) (d : List (Option Nat)) (W : GW) : Prop where
  nd : W.met.Nodup
  mm : ∀ x, x ∈ W.met ↔ x ∈ M
  dm : ∀ h p : Nat, h ∈ M → p < g.length → ∃ b, gDm ⟨gPreds g, gPlaces g.length W.met, gPlaces g.length W.left⟩ h p = some b ∧ (b = true ↔ (p ∈ M ∧ Dom g h p))
  od : ∀ i j a b : Nat, W.met[i]? = some a → W.met[j]? = some b → Dom g a b → i ≤ j
theorem dtree (g : List (List Int)) (K : Nat) (F : GW) (d : List (Option Nat)) (hn : g.length ≠ 0) (hF : gWalk g K = some F) (hd : DmI g F.met F.met.length d) (hK : 2 * g.length + 1 ≤ K) : ∃ ks W, gKids d = some ks ∧ gWalk (gUpG ks) K = some W ∧ DtF g F.met d W := by
  obtain ⟨D, _, _⟩ := gWalk_dfs g K F hn hF
  have hmem : ∀ x q : Nat, d[x]? = some (some q) → ∃ j : Nat, 0 < j ∧ F.met[j]? = some x := fun x q hx => by
    have hxn : x < g.length := by have := (List.getElem?_eq_some_iff.1 hx).1; rw [hd.len] at this; exact this
    refine Classical.byContradiction fun hc => ?_
    rw [hd.no x hxn (fun j h1 _ e => hc ⟨j, h1, e⟩)] at hx
    cases hx
  have hdlt : ∀ x q : Nat, d[x]? = some (some q) → x ∈ F.met ∧ q ∈ F.met ∧ Dom g q x ∧ q ≠ x := fun x q hx => by
    obtain ⟨j, h1, h2⟩ := hmem x q hx
    obtain ⟨q2, nq, e1, e2, e3, e4, e5⟩ := hd.ok j x h1 (List.getElem?_eq_some_iff.1 h2).1 h2
    rw [hx] at e1
    injection e1 with e1
    injection e1 with e1
    subst e1
    refine ⟨List.mem_of_getElem? h2, List.mem_of_getElem? e2, e4, fun e => ?_⟩
    subst e
    have := nd_inj D.nd e2 h2
    omega
  obtain ⟨ks, k1, k2, k3⟩ := gKid_ok d 0 (List.replicate d.length []) (fun a ha => by
    obtain ⟨x, hx⟩ := List.getElem?_of_mem ha
    rw [List.length_replicate, hd.len]
    exact D.lt a (hdlt x a hx).2.1)
  have hkl : ks.length = g.length := by rw [k2, List.length_replicate, hd.len]
  have k4 : ∀ a y : Nat, y ∈ ks.getD a [] ↔ d[y]? = some (some a) := fun a y => by
    rw [k3]
    constructor
    · rintro (e | ⟨j, e1, e2⟩)
      · rw [List.getD_eq_getElem?_getD, List.getElem?_replicate] at e
        split at e <;> cases e
      · rw [show y = j by omega]; exact e1
    · intro e
      exact Or.inr ⟨y, e, by omega⟩
  have hpts : Pts ks := fun l hl q hq => by
    obtain ⟨a, ha⟩ := List.getElem?_of_mem hl
    have : q ∈ ks.getD a [] := by rw [List.getD_eq_getElem?_getD, ha]; exact hq
    rw [hkl, ← hd.len]
    exact (List.getElem?_eq_some_iff.1 ((k4 a q).1 this)).1
  have hul : (gUpG ks).length = g.length := by unfold gUpG; rw [List.length_map, hkl]
  obtain ⟨W, hW, _⟩ := gWalk_ends (gUpG ks) K (by rw [hul]; exact hK)
  obtain ⟨⟨D2, _, _⟩, l1, l2, l3, l4⟩ := gWalk_dfl (gUpG ks) K W (by rw [hul]; exact hn) hW
  have hedge : ∀ a y, EdgG (gUpG ks) a y ↔ d[y]? = some (some a) := fun a y => (edg_up ks hpts a y).trans (k4 a y)
  have hwb : ∀ x y : Nat, x ∈ W.met → W.wby[x]? = some (some y) → d[x]? = some (some y) := fun x y hx hy => by
    obtain ⟨i, hi⟩ := List.getElem?_of_mem hx
    rcases D2.par i x hi with e | ⟨y2, j, e1, e2, e3, e4⟩
    · subst e
      rw [D2.zero] at hi
      injection hi with hi
      subst hi
      rw [D2.root] at hy
      cases hy
    · rw [hy] at e1
      injection e1 with e1
      injection e1 with e1
      subst e1
      exact (hedge y x).1 e4
  have hm1 : ∀ i x : Nat, W.met[i]? = some x → x ∈ F.met := fun i x hi => by
    rcases D2.par i x hi with e | ⟨y2, j, e1, e2, e3, e4⟩
    · subst e
      rw [D2.zero] at hi
      injection hi with hi
      subst hi
      exact List.mem_of_getElem? D.zero
    · exact (hdlt x y2 ((hedge y2 x).1 e4)).1
  have hm2 : ∀ i x : Nat, F.met[i]? = some x → x ∈ W.met := by
    intro i
    induction i using Nat.strongRecOn with
    | _ i ih =>
      intro x hx
      by_cases h0 : i = 0
      · subst h0
        rw [D.zero] at hx
        injection hx with hx
        subst hx
        exact List.mem_of_getElem? D2.zero
      · obtain ⟨q, nq, e1, e2, e3, _⟩ := hd.ok i x (by omega) (List.getElem?_eq_some_iff.1 hx).1 hx
        obtain ⟨j, hj⟩ := List.getElem?_of_mem (ih nq e3 q e2)
        obtain ⟨j2, hj2, _⟩ := D2.ed j q x hj ((hedge q x).2 e1)
        exact List.mem_of_getElem? hj2
  have hmm : ∀ x, x ∈ W.met ↔ x ∈ F.met := fun x => ⟨fun h => by obtain ⟨i, hi⟩ := List.getElem?_of_mem h; exact hm1 i x hi, fun h => by obtain ⟨i, hi⟩ := List.getElem?_of_mem h; exact hm2 i x hi⟩
  have up_dom : ∀ a b, Up W.wby a b → b ∈ W.met → Dom g a b := by
    intro a b h
    induction h with
    | refl => intro _; exact Dom.refl a
    | @step x y _ e ih =>
      intro hx
      have := hdlt x y (hwb x y hx e)
      exact (ih ((hmm y).2 this.2.1)).trans this.2.2.1
  have dom_up : ∀ (j a b : Nat), F.met[j]? = some b → a ∈ F.met → Dom g a b → Up W.wby a b := by
    intro j
    induction j using Nat.strongRecOn with
    | _ j ih =>
      intro a b hb ha hdom
      by_cases e : a = b
      · subst e; exact .refl
      · by_cases h0 : j = 0
        · subst h0
          rw [D.zero] at hb
          injection hb with hb
          subst hb
          exact absurd (Av.zero (Ne.symm e)) hdom
        · obtain ⟨q, nq, e1, e2, e3, e4, e5⟩ := hd.ok j b (by omega) (List.getElem?_eq_some_iff.1 hb).1 hb
          obtain ⟨na, hna⟩ := List.getElem?_of_mem ha
          have hup := ih nq e3 a q e2 ha (e5 a na hna hdom e)
          obtain ⟨i, hi⟩ := List.getElem?_of_mem (hm2 j b hb)
          rcases D2.par i b hi with f | ⟨y2, j2, f1, f2, f3, f4⟩
          · subst f
            rw [D2.zero] at hi
            injection hi with hi
            subst hi
            have := nd_inj D.nd hb D.zero
            omega
          · have := (hedge y2 b).1 f4
            rw [e1] at this
            injection this with this
            injection this with this
            subst this
            exact .step hup f1
  have hlt2 : ∀ p ∈ W.met, p < g.length := fun p hp => D.lt p ((hmm p).1 hp)
  have hltl : ∀ p ∈ W.left, p < g.length := fun p hp => hlt2 p ((l1 p).1 hp)
  have down : ∀ a b, Up W.wby a b → b ∈ W.met → ∀ i j : Nat, W.left[i]? = some a → W.left[j]? = some b → j ≤ i := by
    intro a b h
    induction h with
    | refl => intro _ i j hi hj; rw [nd_inj l2 hi hj]; exact Nat.le_refl _
    | @step x y hu e ih =>
      intro hx i j hi hj
      have hdx := hwb x y hx e
      have hym : y ∈ W.met := (hmm y).2 (hdlt x y hdx).2.1
      obtain ⟨t, ht⟩ := List.getElem?_of_mem ((l1 y).2 hym)
      have h1 := ih hym i t hi ht
      rcases l3 t y ht x ((hedge y x).2 hdx) with ⟨j2, j3, j4⟩ | hr
      · have := nd_inj l2 hj j4
        omega
      · exfalso
        have : Dom g x y := by
          have hR : ∀ c, Rch (EdgG (gUpG ks)) x c → Dom g x c := by
            intro c hc
            induction hc with
            | nil => exact Dom.refl x
            | step _ e2 ih2 => exact ih2.trans (hdlt _ _ ((hedge _ _).1 e2)).2.2.1
          exact hR y hr
        have h3 := hdlt x y hdx
        exact h3.2.2.2 (dom_eq D h3.2.1 h3.1 h3.2.2.1 this)
  refine ⟨ks, W, k1, hW, D2.nd, hmm, fun h p hh hp => ?_, fun i j a b hi hj hdom => ?_⟩
  · have hhn := D.lt h hh
    obtain ⟨fh, hfh⟩ := List.getElem?_of_mem ((hmm h).2 hh)
    obtain ⟨lh, hlh⟩ := List.getElem?_of_mem ((l1 h).2 ((hmm h).2 hh))
    have a1 := gPlaces_at D2.nd hlt2 hfh
    have a2 := gPlaces_at l2 hltl hlh
    by_cases hpm : p ∈ F.met
    · obtain ⟨fp, hfp⟩ := List.getElem?_of_mem ((hmm p).2 hpm)
      obtain ⟨lp, hlp⟩ := List.getElem?_of_mem ((l1 p).2 ((hmm p).2 hpm))
      have a3 := gPlaces_at D2.nd hlt2 hfp
      have a4 := gPlaces_at l2 hltl hlp
      refine ⟨decide (oI (some fh) ≤ oI (some fp)) && decide (oI (some lp) ≤ oI (some lh)), by unfold gDm; simp only [a1, a2, a3, a4], ?_⟩
      simp only [show ∀ t : Nat, oI (some t) = (t : Int) from fun _ => rfl, show oI none = -1 from rfl, Bool.and_eq_true, decide_eq_true_eq]
      constructor
      · rintro ⟨q1, q2⟩
        exact ⟨hpm, up_dom h p (l4 lh lp h p fh fp hlh hlp (by omega) hfh hfp (by omega)) ((hmm p).2 hpm)⟩
      · rintro ⟨_, q2⟩
        obtain ⟨np, hnp⟩ := List.getElem?_of_mem hpm
        have hu := dom_up np h p hnp hh q2
        have b1 := D2.le hu hfh hfp
        have b2 := down h p hu ((hmm p).2 hpm) lh lp hlh hlp
        omega
    · have a3 := gPlaces_not D2.nd hlt2 (fun e => hpm ((hmm p).1 e)) hp
      have a4 := gPlaces_not l2 hltl (fun e => hpm ((hmm p).1 ((l1 p).1 e))) hp
      refine ⟨decide (oI (some fh) ≤ oI none) && decide (oI none ≤ oI (some lh)), by unfold gDm; simp only [a1, a2, a3, a4], ?_⟩
      simp only [show ∀ t : Nat, oI (some t) = (t : Int) from fun _ => rfl, show oI none = -1 from rfl, Bool.and_eq_true, decide_eq_true_eq]
      exact ⟨fun h => by omega, fun h => absurd h.1 hpm⟩
  · obtain ⟨nb, hnb⟩ := List.getElem?_of_mem ((hmm b).1 (List.mem_of_getElem? hj))
    exact D2.le (dom_up nb a b hnb ((hmm a).1 (List.mem_of_getElem? hi)) hdom) hi hj
end Go.Proofs.Ytpfjafjpijmckaa

/- Plain: what a Loop has in it; who stands outermost. -/
set_option linter.unusedSimpArgs false
set_option linter.unusedVariables false
namespace Go.Proofs.Ytpfjafjpijmckaa
open Go.RowKit

/-- t leads back to h, which dominates it. -/
def Tl (g : List (List Int)) (M : List Nat) (h t : Nat) : Prop := EdgG g t h ∧ t ∈ M ∧ Dom g h t
/-- In h's Loop, and not h. -/
inductive BL (g : List (List Int)) (M : List Nat) (h : Nat) : Nat → Prop
  | tail {t : Nat} : Tl g M h t → t ≠ h → BL g M h t
  | back {q p : Nat} : BL g M h p → EdgG g q p → q ∈ M → q ≠ h → BL g M h q
section
variable {g : List (List Int)} {M : List Nat} {wb : List (Option Nat)}
theorem BL.mem {h p : Nat} (b : BL g M h p) : p ∈ M := by
  cases b with
  | tail t _ => exact t.2.1
  | back _ _ m _ => exact m
theorem BL.ne {h p : Nat} (b : BL g M h p) : p ≠ h := by
  cases b with
  | tail _ n => exact n
  | back _ _ _ n => exact n
theorem BL.dom {h p : Nat} (b : BL g M h p) : Dom g h p := by
  induction b with
  | tail t _ => exact t.2.2
  | back b e _ _ ih => exact fun ha => ih (.step ha e b.ne)
theorem BL.tl {h p : Nat} (b : BL g M h p) : ∃ t, Tl g M h t := by
  induction b with
  | tail t _ => exact ⟨_, t⟩
  | back _ _ _ _ ih => exact ih
theorem dom_mem (D : DfsF g M wb) {h p : Nat} (hp : p ∈ M) (hd : Dom g h p) : h ∈ M := by
  refine Classical.byContradiction fun hc => ?_
  have : ∀ (k z : Nat), M[k]? = some z → Av g h z := by
    intro k
    induction k using Nat.strongRecOn with
    | _ k ih =>
      intro z hz
      have hne : z ≠ h := fun e => hc (by rw [← e]; exact List.mem_of_getElem? hz)
      by_cases h0 : k = 0
      · subst h0
        rw [D.zero] at hz
        injection hz with hz
        subst hz
        exact .zero hne
      · obtain ⟨y, u, _, w2, w3, w4, _⟩ := D.up hz (by omega)
        exact .step (ih u w3 y w2) w4 hne
  obtain ⟨k, hk⟩ := List.getElem?_of_mem hp
  exact hd (this k p hk)
theorem BL.hmem (D : DfsF g M wb) {h p : Nat} (b : BL g M h p) : h ∈ M := dom_mem D b.mem b.dom
theorem BL.anti (D : DfsF g M wb) {h p : Nat} (b : BL g M h p) (c : Dom g p h) : False := b.ne (dom_eq D b.mem (b.hmem D) c b.dom)
theorem BL.trans (D : DfsF g M wb) {h r p : Nat} (b : BL g M h r) (c : BL g M r p) : BL g M h p := by
  induction c with
  | tail t n =>
    refine .back b t.1 t.2.1 (fun e => ?_)
    subst e
    exact b.anti D t.2.2
  | @back q p c e m n ih =>
    refine .back ih e m (fun e2 => ?_)
    subst e2
    exact b.anti D (BL.back c e m n).dom
theorem BL.tree (D : DfsF g M wb) {h r nh nr : Nat} (hh : M[nh]? = some h) (hr : M[nr]? = some r) (hlt : nh < nr) {p : Nat} (hu : Up wb r p) (b : BL g M h p) : BL g M h r := by
  induction hu with
  | refl => exact b
  | @step x y hu e ih =>
    obtain ⟨j, hj⟩ := List.getElem?_of_mem b.mem
    rcases D.par j x hj with f | ⟨y2, j2, f1, f2, f3, f4⟩
    · subst f
      rw [D.zero] at hj
      injection hj with hj
      subst hj
      rw [D.root] at e
      cases e
    · rw [e] at f1
      injection f1 with f1
      injection f1 with f1
      subst f1
      have := D.le hu hr f3
      refine ih (.back b f4 (List.mem_of_getElem? f3) (fun e2 => ?_))
      subst e2
      have := nd_inj D.nd f3 hh
      omega
/-- Of two Loops that share a point one head is in the other one. -/
theorem BL.common (D : DfsF g M wb) {h r p : Nat} (b : BL g M h p) (c : BL g M r p) : h = r ∨ BL g M h r ∨ BL g M r h := by
  obtain ⟨nh, hh⟩ := List.getElem?_of_mem (b.hmem D)
  obtain ⟨nr, hr⟩ := List.getElem?_of_mem (c.hmem D)
  obtain ⟨np, hp⟩ := List.getElem?_of_mem b.mem
  obtain ⟨a1, a2, a3, a4, a5⟩ := b.dom.up D hh hp
  obtain ⟨c1, c2, c3, c4, c5⟩ := c.dom.up D hr hp
  rw [hh] at a3
  injection a3 with a3
  rw [hp] at a4
  injection a4 with a4
  rw [hr] at c3
  injection c3 with c3
  rw [hp] at c4
  injection c4 with c4
  subst a3 a4 c3 c4
  rcases Nat.lt_trichotomy nh nr with e | e | e
  · exact Or.inr (Or.inl (b.tree D hh hr e c5))
  · subst e
    rw [hh] at hr
    exact Or.inl (Option.some.inj hr)
  · exact Or.inr (Or.inr (c.tree D hr hh e a5))
end

/-- The outermost, by the row of tops. -/
inductive Rt (top : List Nat) : Nat → Nat → Prop
  | self {p : Nat} : top[p]? = some p → Rt top p p
  | step {p t r : Nat} : top[p]? = some t → t ≠ p → Rt top t r → Rt top p r
/-- Tops lead to places ahead. -/
structure TopOK (n : Nat) (ws : List Nat) (top : List Nat) : Prop where
  len : top.length = n
  ok : ∀ p t : Nat, top[p]? = some t → t < n ∧ (t = p ∨ ∃ i j : Nat, ws[i]? = some t ∧ ws[j]? = some p ∧ i < j)
section
variable {n : Nat} {ws top : List Nat}
theorem Rt.uniq {p r s : Nat} (h : Rt top p r) (k : Rt top p s) : r = s := by
  induction h with
  | self e =>
    cases k with
    | self _ => rfl
    | step e2 n _ => rw [e] at e2; injection e2 with e2; exact absurd e2.symm n
  | step e n _ ih =>
    cases k with
    | self e2 => rw [e] at e2; injection e2 with e2; exact absurd e2 n
    | step e2 _ k2 =>
      rw [e] at e2
      injection e2 with e2
      subst e2
      exact ih k2
theorem Rt.root {p r : Nat} (h : Rt top p r) : top[r]? = some r := by
  induction h with
  | self e => exact e
  | step _ _ _ ih => exact ih
theorem Rt.le (T : TopOK n ws top) (hn : ws.Nodup) {p r : Nat} (h : Rt top p r) : p = r ∨ ∃ i j : Nat, ws[i]? = some r ∧ ws[j]? = some p ∧ i < j := by
  induction h with
  | self _ => exact Or.inl rfl
  | @step p t r e ne _ ih =>
    rcases (T.ok p t e).2 with f | ⟨i, j, f1, f2, f3⟩
    · exact absurd f ne
    · rcases ih with e2 | ⟨i2, j2, g1, g2, g3⟩
      · subst e2; exact Or.inr ⟨i, j, f1, f2, f3⟩
      · have := nd_inj hn f1 g2
        exact Or.inr ⟨i2, j, g1, f2, by omega⟩
theorem TopOK.rt (T : TopOK n ws top) (hn : ws.Nodup) : ∀ (k p : Nat), p < n → (∀ j : Nat, ws[j]? = some p → j < k) → 0 < k → ∃ r, Rt top p r
  | 0, p, _, _, h => by omega
  | k + 1, p, hp, hj, _ => by
    have e : top[p]? = some (top[p]'(by rw [T.len]; exact hp)) := List.getElem?_eq_getElem _
    generalize top[p]'(by rw [T.len]; exact hp) = t at e
    by_cases ht : t = p
    · subst ht; exact ⟨t, .self e⟩
    · rcases T.ok p t e with ⟨f0, f | ⟨i, j, f1, f2, f3⟩⟩
      · exact absurd f ht
      · have hjk := hj j f2
        obtain ⟨r, hr⟩ := TopOK.rt T hn k t f0 (fun j2 hj2 => by have := nd_inj hn hj2 f1; omega) (by omega)
        exact ⟨r, .step e ht hr⟩
theorem TopOK.any (T : TopOK n ws top) (hn : ws.Nodup) (p : Nat) (hp : p < n) : ∃ r, Rt top p r := T.rt hn (ws.length + 1) p hp (fun j hj => by have := (List.getElem?_eq_some_iff.1 hj).1; omega) (by omega)
/-- A way that is halved leads where it led. -/
theorem TopOK.halve (T : TopOK n ws top) (hn : ws.Nodup) {p t u : Nat} (h1 : top[p]? = some t) (h2 : t ≠ p) (h3 : top[t]? = some u) : TopOK n ws (top.set p u) ∧ u ≠ p ∧ ∀ q s, Rt top q s ↔ Rt (top.set p u) q s := by
  have hp : p < top.length := (List.getElem?_eq_some_iff.1 h1).1
  obtain ⟨_, f | ⟨i, j, f1, f2, f3⟩⟩ := T.ok p t h1
  · exact absurd f h2
  obtain ⟨u0, hu⟩ := T.ok t u h3
  have hup : ∃ i2 : Nat, ws[i2]? = some u ∧ i2 < j := by
    rcases hu with e | ⟨a, b, g1, g2, g3⟩
    · subst e; exact ⟨i, f1, f3⟩
    · have := nd_inj hn f1 g2
      exact ⟨a, g1, by omega⟩
  obtain ⟨i2, hi2, hi3⟩ := hup
  have hne : u ≠ p := fun e => by
    subst e
    have := nd_inj hn hi2 f2
    omega
  have sp : (top.set p u)[p]? = some u := by rw [List.getElem?_set_self hp]
  have so : ∀ q : Nat, q ≠ p → (top.set p u)[q]? = top[q]? := fun q hq => by rw [List.getElem?_set, if_neg (Ne.symm hq)]
  refine ⟨⟨by rw [List.length_set]; exact T.len, fun q v hq => ?_⟩, hne, fun q s => ⟨fun h => ?_, fun h => ?_⟩⟩
  · by_cases e : q = p
    · subst e
      rw [sp] at hq
      injection hq with hq
      subst hq
      exact ⟨u0, Or.inr ⟨i2, j, hi2, f2, hi3⟩⟩
    · rw [so q e] at hq
      exact T.ok q v hq
  · induction h with
    | @self q e =>
      by_cases e2 : q = p
      · subst e2
        rw [h1] at e
        injection e with e
        exact absurd e h2
      · exact .self (by rw [so q e2]; exact e)
    | @step q v s e ne _ ih =>
      by_cases e2 : q = p
      · subst e2
        rw [h1] at e
        injection e with e
        subst e
        by_cases e3 : u = t
        · subst e3; exact .step sp ne ih
        · have st : (top.set q u)[t]? = some u := by rw [so t h2]; exact h3
          cases ih with
          | self e4 => rw [st] at e4; injection e4 with e4; exact absurd e4 e3
          | step e4 n4 k4 =>
            rw [st] at e4
            injection e4 with e4
            subst e4
            exact .step sp hne k4
      · exact .step (by rw [so q e2]; exact e) ne ih
  · induction h with
    | @self q e =>
      by_cases e2 : q = p
      · subst e2
        rw [sp] at e
        injection e with e
        exact absurd e hne
      · exact .self (by rw [← so q e2]; exact e)
    | @step q v s e ne _ ih =>
      by_cases e2 : q = p
      · subst e2
        rw [sp] at e
        injection e with e
        subst e
        by_cases e3 : u = t
        · subst e3; exact .step h1 h2 ih
        · exact .step h1 h2 (.step h3 e3 ih)
      · exact .step (by rw [← so q e2]; exact e) ne ih
theorem gOut_ok (hn : ws.Nodup) : ∀ (k p : Nat) (top : List Nat), TopOK n ws top → p < n → (∀ j : Nat, ws[j]? = some p → j < k) → 0 < k → ∃ r top', gOut k top p = some (r, top') ∧ Rt top p r ∧ TopOK n ws top' ∧ ∀ q s, Rt top q s ↔ Rt top' q s
  | 0, p, top, _, _, _, h => by omega
  | k + 1, p, top, T, hp, hj, _ => by
    have e : top[p]? = some (top[p]'(by rw [T.len]; exact hp)) := List.getElem?_eq_getElem _
    generalize top[p]'(by rw [T.len]; exact hp) = t at e
    rw [gOut, e]
    simp only
    by_cases ht : t = p
    · rw [if_pos ht]
      subst ht
      exact ⟨t, top, rfl, .self e, T, fun _ _ => Iff.rfl⟩
    · rw [if_neg ht]
      obtain ⟨f0, f | ⟨i, j, f1, f2, f3⟩⟩ := T.ok p t e
      · exact absurd f ht
      have e2 : top[t]? = some (top[t]'(by rw [T.len]; exact f0)) := List.getElem?_eq_getElem _
      generalize top[t]'(by rw [T.len]; exact f0) = u at e2
      rw [e2]
      simp only
      obtain ⟨T2, hne, hR⟩ := T.halve hn e ht e2
      obtain ⟨u0, hu⟩ := T.ok t u e2
      have hjk := hj j f2
      obtain ⟨r, top', g1, g2, g3, g4⟩ := gOut_ok hn k u (top.set p u) T2 u0 (fun j2 hj2 => by
        rcases hu with e3 | ⟨a, b, h1, h2, h3⟩
        · subst e3
          have := nd_inj hn hj2 f1
          omega
        · have := nd_inj hn hj2 h1
          have := nd_inj hn f1 h2
          omega) (by omega)
      have hru := (hR u r).2 g2
      refine ⟨r, top', g1, ?_, g3, fun q s => (hR q s).trans (g4 q s)⟩
      by_cases e3 : u = t
      · subst e3; exact .step e ht hru
      · exact .step e ht (.step e2 e3 hru)
/-- A root is put below another one. -/
theorem TopOK.put (T : TopOK n ws top) (hn : ws.Nodup) {r h : Nat} (hr : top[r]? = some r) (hh : top[h]? = some h) (hne : r ≠ h) {i j : Nat} (hi : ws[i]? = some h) (hj : ws[j]? = some r) (hij : i < j) : TopOK n ws (top.set r h) ∧ (∀ q, Rt top q r → Rt (top.set r h) q h) ∧ ∀ q s, s ≠ r → Rt top q s → Rt (top.set r h) q s := by
  have hrl : r < top.length := (List.getElem?_eq_some_iff.1 hr).1
  have sp : (top.set r h)[r]? = some h := by rw [List.getElem?_set_self hrl]
  have so : ∀ q : Nat, q ≠ r → (top.set r h)[q]? = top[q]? := fun q hq => by rw [List.getElem?_set, if_neg (Ne.symm hq)]
  have hh2 : Rt (top.set r h) h h := .self (by rw [so h (Ne.symm hne)]; exact hh)
  refine ⟨⟨by rw [List.length_set]; exact T.len, fun q v hq => ?_⟩, fun q hq => ?_, fun q s hs hq => ?_⟩
  · by_cases e : q = r
    · subst e
      rw [sp] at hq
      injection hq with hq
      subst hq
      exact ⟨(T.ok h h hh).1, Or.inr ⟨i, j, hi, hj, hij⟩⟩
    · rw [so q e] at hq
      exact T.ok q v hq
  · generalize hrr : r = s at hq
    induction hq with
    | @self q e => subst hrr; exact .step sp (Ne.symm hne) hh2
    | @step q v s e ne k ih =>
      subst hrr
      by_cases e2 : q = r
      · subst e2
        rw [hr] at e
        injection e with e
        exact absurd e.symm ne
      · exact .step (by rw [so q e2]; exact e) ne (ih rfl)
  · induction hq with
    | @self q e => exact .self (by rw [so q hs]; exact e)
    | @step q v s e ne k ih =>
      by_cases e2 : q = r
      · subst e2
        rw [hr] at e
        injection e with e
        exact absurd e.symm ne
      · exact .step (by rw [so q e2]; exact e) ne (ih hs)
end
end Go.Proofs.Ytpfjafjpijmckaa

/- Plain: the Loops are found from the innermost outward. -/
set_option linter.unusedSimpArgs false
set_option linter.unusedVariables false
namespace Go.Proofs.Ytpfjafjpijmckaa
open Go.RowKit

/-- How many are their own top. -/
def rts (n : Nat) (top : List Nat) : Nat := unsh ((List.range n).map (fun i => !(top[i]? == some i)))
theorem rts_le (n : Nat) (top : List Nat) : rts n top ≤ n := by
  have := unsh_le ((List.range n).map (fun i => !(top[i]? == some i)))
  simp only [List.length_map, List.length_range] at this
  exact this
theorem rts_same {n : Nat} {top top' : List Nat} (h : ∀ i : Nat, top[i]? = some i ↔ top'[i]? = some i) : rts n top = rts n top' := by
  unfold rts
  congr 1
  apply List.map_congr_left
  intro i _
  have := h i
  by_cases e : top[i]? = some i
  · rw [e, this.1 e]
  · have e2 : ¬ top'[i]? = some i := fun c => e (this.2 c)
    have b1 : (top[i]? == some i) = false := by simpa using e
    have b2 : (top'[i]? == some i) = false := by simpa using e2
    rw [b1, b2]
theorem rts_put {n : Nat} {top : List Nat} {r h : Nat} (hr : top[r]? = some r) (hn : r < n) (hne : h ≠ r) : rts n (top.set r h) + 1 = rts n top := by
  have hrl : r < top.length := (List.getElem?_eq_some_iff.1 hr).1
  have e : (List.range n).map (fun i => !((top.set r h)[i]? == some i)) = ((List.range n).map (fun i => !(top[i]? == some i))).set r true := by
    apply List.ext_getElem?
    intro i
    rw [List.getElem?_set]
    by_cases hi : i < n
    · rw [List.getElem?_map, List.getElem?_range hi]
      by_cases e : r = i
      · subst e
        rw [if_pos rfl, if_pos (by simpa using hi), Option.map_some, List.getElem?_set_self hrl]
        have : ((some h : Option Nat) == some r) = false := by simpa using hne
        rw [this]
        rfl
      · rw [if_neg e, List.getElem?_map, List.getElem?_range hi, Option.map_some, Option.map_some, List.getElem?_set, if_neg e]
    · rw [List.getElem?_eq_none (by simpa using hi), if_neg (by omega), List.getElem?_eq_none (by simpa using hi)]
  unfold rts
  rw [e]
  exact unsh_set _ r (by rw [List.getElem?_map, List.getElem?_range hn, Option.map_some, hr]; simp)
theorem root_iff {n : Nat} {ws top : List Nat} (T : TopOK n ws top) (hn : ws.Nodup) (i : Nat) : top[i]? = some i ↔ Rt top i i := ⟨fun h => .self h, fun h => h.root⟩

/-- Between two heads: P are those that were looked at. -/
structure NI (g : List (List Int)) (M ws : List Nat) (P : Nat → Prop) (st : GN) : Prop where
  hl : st.heads.length = g.length
  ol : st.outer.length = g.length
  tp : TopOK g.length ws st.top
  op : st.opn = []
  r1 : ∀ p r, Rt st.top p r → r = p ∨ (P r ∧ BL g M r p)
  r2 : ∀ k p, P k → BL g M k p → ∃ r, Rt st.top p r ∧ P r ∧ (r = k ∨ BL g M r k)
  o1 : ∀ p k : Nat, st.outer[p]? = some (some k) → P k ∧ BL g M k p ∧ ∀ k2, P k2 → BL g M k2 p → k2 = k ∨ BL g M k2 k
  o2 : ∀ p : Nat, st.outer[p]? = some none → ∀ k, P k → ¬ BL g M k p
  hd : ∀ h : Nat, st.heads[h]? = some true ↔ (P h ∧ ∃ t, Tl g M h t)
/-- While h's Loop is looked for: X are those whose list is gone through just now. -/
structure FI (g : List (List Int)) (M ws : List Nat) (h : Nat) (st0 : GN) (X Tk : Nat → Prop) (st : GN) : Prop where
  hl : st.heads.length = g.length
  ol : st.outer.length = g.length
  tp : TopOK g.length ws st.top
  rt : ∀ p r0, Rt st0.top p r0 → (Tk r0 → Rt st.top p h) ∧ (¬ Tk r0 → Rt st.top p r0)
  tk : ∀ r, Tk r → Rt st0.top r r ∧ BL g M h r
  ou : ∀ q : Nat, (Tk q → st.outer[q]? = some (some h)) ∧ (¬ Tk q → st.outer[q]? = st0.outer[q]?)
  op : ∀ q ∈ st.opn, Tk q
  cl : ∀ r, Tk r → r ∈ st.opn ∨ X r ∨ ∀ q, EdgG g q r → q ∈ M → Rt st.top q h

section
variable {g : List (List Int)} {M : List Nat} {wb : List (Option Nat)} {d : List (Option Nat)} {W : GW}
/-- What is known of h when it is looked at. -/
structure HK (g : List (List Int)) (M ws : List Nat) (P : Nat → Prop) (h : Nat) : Prop where
  mem : h ∈ M
  nP : ∀ r, P r → ¬ Dom g r h
  PM : ∀ r, P r → r ∈ M
theorem NI.self (D : DfsF g M wb) (DT : DtF g M d W) {P : Nat → Prop} {st0 : GN} (N : NI g M W.met P st0) {h : Nat} (H : HK g M W.met P h) : Rt st0.top h h := by
  obtain ⟨r, hr⟩ := N.tp.any DT.nd h (D.lt h H.mem)
  rcases N.r1 h r hr with e | ⟨e1, e2⟩
  · subst e; exact hr
  · exact absurd e2.dom (H.nP r e1)
theorem gTake_ok (D : DfsF g M wb) (DT : DtF g M d W) {P : Nat → Prop} {st0 : GN} (N : NI g M W.met P st0) {h : Nat} (H : HK g M W.met P h) {X Tk : Nat → Prop} {st : GN} (I : FI g M W.met h st0 X Tk st) (K : Nat) (hK : W.met.length < K) (p : Nat) (hp : p = h ∨ BL g M h p) :
    ∃ st' Tk' ll, gTake K h p st = some st' ∧ FI g M W.met h st0 X Tk' st' ∧ Rt st'.top p h ∧ (∀ q, Rt st.top q h → Rt st'.top q h) ∧ st'.heads = st.heads ∧ st'.opn = st.opn ++ ll ∧ rts g.length st'.top + ll.length = rts g.length st.top ∧ ∀ q, Tk q → Tk' q := by
  have hpM : p ∈ M := by
    rcases hp with e | e
    · rw [e]; exact H.mem
    · exact e.mem
  have hpn := D.lt p hpM
  have hs0 := N.self D DT H
  have hnh : ¬ Tk h := fun c => (I.tk h c).2.ne rfl
  have hsh : Rt st.top h h := (I.rt h h hs0).2 hnh
  obtain ⟨r, top', g1, g2, g3, g4⟩ := gOut_ok (n := g.length) DT.nd K p st.top I.tp hpn (fun j hj => by have := (List.getElem?_eq_some_iff.1 hj).1; omega) (by omega)
  have hroot : ∀ i : Nat, st.top[i]? = some i ↔ top'[i]? = some i := fun i => (root_iff I.tp DT.nd i).trans ((g4 i i).trans (root_iff g3 DT.nd i).symm)
  unfold gTake
  rw [g1]
  simp only
  by_cases hrh : r = h
  · rw [if_pos hrh]
    subst hrh
    refine ⟨_, Tk, [], rfl, ⟨I.hl, I.ol, g3, fun q r0 hq => ⟨fun a => (g4 _ _).1 ((I.rt q r0 hq).1 a), fun a => (g4 _ _).1 ((I.rt q r0 hq).2 a)⟩, I.tk, I.ou, I.op, fun s hs => ?_⟩, (g4 _ _).1 g2, fun q hq => (g4 _ _).1 hq, rfl, by simp, ?_, fun q hq => hq⟩
    · rcases I.cl s hs with e | e | e
      · exact Or.inl e
      · exact Or.inr (Or.inl e)
      · exact Or.inr (Or.inr (fun q a b => (g4 _ _).1 (e q a b)))
    · simp only [List.length_nil, Nat.add_zero]
      exact (rts_same hroot).symm
  · rw [if_neg hrh]
    obtain ⟨r0, hr0⟩ := N.tp.any DT.nd p hpn
    have hnk : ¬ Tk r0 := fun c => hrh (g2.uniq ((I.rt p r0 hr0).1 c))
    have hrr := g2.uniq ((I.rt p r0 hr0).2 hnk)
    subst hrr
    have hbp : BL g M h p := by
      rcases hp with e | e
      · subst e; exact absurd (g2.uniq hsh) hrh
      · exact e
    have hbr : BL g M h r := by
      rcases N.r1 p r hr0 with e | ⟨e1, e2⟩
      · rw [e]; exact hbp
      · rcases hbp.common D e2 with e | e | e
        · exact absurd e.symm hrh
        · exact e
        · exact absurd e.dom (H.nP r e1)
    have htr : top'[r]? = some r := (hroot r).1 g2.root
    have hth : top'[h]? = some h := (hroot h).1 hsh.root
    obtain ⟨ih, hih⟩ := List.getElem?_of_mem ((DT.mm h).2 H.mem)
    obtain ⟨ir, hir⟩ := List.getElem?_of_mem ((DT.mm r).2 hbr.mem)
    have hord := DT.od ih ir h r hih hir hbr.dom
    have hlt : ih < ir := by
      rcases Nat.lt_or_eq_of_le hord with e | e
      · exact e
      · subst e
        rw [hih] at hir
        exact absurd (Option.some.inj hir).symm hrh
    obtain ⟨p1, p2, p3⟩ := g3.put DT.nd htr hth hrh hih hir hlt
    have hrn := D.lt r hbr.mem
    have keep : ∀ q, Rt st.top q h → Rt (top'.set r h) q h := fun q hq => p3 q h (Ne.symm hrh) ((g4 _ _).1 hq)
    refine ⟨_, fun q => Tk q ∨ q = r, [r], rfl, ⟨I.hl, by simp [I.ol], p1, fun q s hq => ⟨fun a => ?_, fun a => ?_⟩, fun s hs => ?_, fun q => ⟨fun a => ?_, fun a => ?_⟩, fun q hq => ?_, fun s hs => ?_⟩, p2 p ((g4 _ _).1 g2), keep, rfl, rfl, ?_, fun q hq => Or.inl hq⟩
    · rcases a with a | a
      · exact keep q ((I.rt q s hq).1 a)
      · subst a; exact p2 q ((g4 _ _).1 ((I.rt q s hq).2 hnk))
    · refine p3 q s (fun e => a (Or.inr e)) ((g4 _ _).1 ((I.rt q s hq).2 (fun c => a (Or.inl c))))
    · rcases hs with hs | hs
      · exact I.tk s hs
      · subst hs; exact ⟨.self hr0.root, hbr⟩
    · show (st.outer.set r (some h))[q]? = _
      rcases a with a | a
      · by_cases e : r = q
        · subst e; exact absurd a hnk
        · rw [List.getElem?_set, if_neg e]; exact (I.ou q).1 a
      · subst a; rw [List.getElem?_set_self (by rw [I.ol]; exact hrn)]
    · show (st.outer.set r (some h))[q]? = _
      rw [List.getElem?_set, if_neg (fun e => a (Or.inr e.symm))]
      exact (I.ou q).2 (fun c => a (Or.inl c))
    · rcases List.mem_append.1 hq with e | e
      · exact Or.inl (I.op q e)
      · exact Or.inr (List.mem_singleton.1 e)
    · rcases hs with hs | hs
      · rcases I.cl s hs with e | e | e
        · exact Or.inl (List.mem_append_left _ e)
        · exact Or.inr (Or.inl e)
        · exact Or.inr (Or.inr (fun q a b => keep q (e q a b)))
      · subst hs; exact Or.inl (List.mem_append_right _ (List.mem_singleton.2 rfl))
    · have := rts_put (n := g.length) htr hrn (Ne.symm hrh)
      rw [rts_same hroot]
      simp only [List.length_cons, List.length_nil]
      exact this
/-- All of a list that are come to. -/
theorem gTakes_ok (D : DfsF g M wb) (DT : DtF g M d W) {P : Nat → Prop} {st0 : GN} (N : NI g M W.met P st0) {h : Nat} (H : HK g M W.met P h) {X : Nat → Prop} (K : Nat) (hK : W.met.length < K) (z : GZ) (hz : z.first = gPlaces g.length W.met) (at' : Nat) (hat : BL g M h at') : ∀ (l : List Nat) (Tk : Nat → Prop) (st : GN), FI g M W.met h st0 X Tk st → (∀ p ∈ l, EdgG g p at' ∧ p < g.length) →
    ∃ st' Tk' ll, gTakes K h z l st = some st' ∧ FI g M W.met h st0 X Tk' st' ∧ (∀ p ∈ l, p ∈ M → Rt st'.top p h) ∧ (∀ q, Rt st.top q h → Rt st'.top q h) ∧ st'.heads = st.heads ∧ st'.opn = st.opn ++ ll ∧ rts g.length st'.top + ll.length = rts g.length st.top ∧ ∀ q, Tk q → Tk' q
  | [], Tk, st, I, _ => ⟨st, Tk, [], rfl, I, fun p hp => by (cases hp), fun q hq => hq, rfl, by simp, by simp, fun q hq => hq⟩
  | p :: l, Tk, st, I, hl => by
    obtain ⟨hE, hpn⟩ := hl p (List.mem_cons_self ..)
    have hlt2 : ∀ q ∈ W.met, q < g.length := fun q hq => D.lt q ((DT.mm q).1 hq)
    rw [gTakes, hz]
    by_cases hpM : p ∈ M
    · obtain ⟨i, hi⟩ := List.getElem?_of_mem ((DT.mm p).2 hpM)
      rw [gPlaces_at DT.nd hlt2 hi]
      simp only
      have hp : p = h ∨ BL g M h p := by
        by_cases e : p = h
        · exact Or.inl e
        · exact Or.inr (.back hat hE hpM e)
      obtain ⟨st1, T1, l1, a1, a2, a3, a4, a5, a6, a7, a8⟩ := gTake_ok D DT N H I K hK p hp
      rw [a1]
      simp only
      obtain ⟨st2, T2, l2, b1, b2, b3, b4, b5, b6, b7, b8⟩ := gTakes_ok D DT N H K hK z hz at' hat l T1 st1 a2 (fun q hq => hl q (List.mem_cons_of_mem _ hq))
      refine ⟨st2, T2, l1 ++ l2, b1, b2, fun q hq hqM => ?_, fun q hq => b4 q (a4 q hq), b5.trans a5, by rw [b6, a6, List.append_assoc], by rw [List.length_append]; omega, fun q hq => b8 q (a8 q hq)⟩
      rcases List.mem_cons.1 hq with e | e
      · rw [e]; exact b4 p a3
      · exact b3 q e hqM
    · rw [gPlaces_not DT.nd hlt2 (fun e => hpM ((DT.mm p).1 e)) hpn]
      simp only
      obtain ⟨st2, T2, l2, b1, b2, b3, b4, b5, b6, b7, b8⟩ := gTakes_ok D DT N H K hK z hz at' hat l Tk st I (fun q hq => hl q (List.mem_cons_of_mem _ hq))
      refine ⟨st2, T2, l2, b1, b2, fun q hq hqM => ?_, b4, b5, b6, b7, b8⟩
      rcases List.mem_cons.1 hq with e | e
      · rw [e] at hqM; exact absurd hqM hpM
      · exact b3 q e hqM
theorem gMore_ok (D : DfsF g M wb) (DT : DtF g M d W) {P : Nat → Prop} {st0 : GN} (N : NI g M W.met P st0) {h : Nat} (H : HK g M W.met P h) (K : Nat) (hK : W.met.length < K) (z : GZ) (hz : z.first = gPlaces g.length W.met) (hzp : z.ps = gPreds g) : ∀ (k : Nat) (Tk : Nat → Prop) (st : GN), FI g M W.met h st0 (fun _ => False) Tk st → rts g.length st.top + st.opn.length < k →
    ∃ st' Tk', gMore K h z k st = some st' ∧ FI g M W.met h st0 (fun _ => False) Tk' st' ∧ st'.opn = [] ∧ (∀ q, Rt st.top q h → Rt st'.top q h) ∧ st'.heads = st.heads
  | 0, Tk, st, I, h => by omega
  | k + 1, Tk, st, I, hk => by
    rw [gMore]
    cases hgl : st.opn.getLast? with
    | none =>
      have : st.opn = [] := List.getLast?_eq_none_iff.1 hgl
      exact ⟨st, Tk, rfl, I, this, fun q hq => hq, rfl⟩
    | some p =>
      simp only
      obtain ⟨ini, hini⟩ := List.getLast?_eq_some_iff.1 hgl
      have hTp : Tk p := I.op p (by rw [hini]; simp)
      have hbp := (I.tk p hTp).2
      have hpn := D.lt p hbp.mem
      obtain ⟨l, hl⟩ : ∃ l, (gPreds g)[p]? = some l := ⟨_, List.getElem?_eq_getElem (by rw [gPreds_len]; exact hpn)⟩
      rw [hzp, hl]
      simp only
      have hdl : st.opn.dropLast = ini := by rw [hini, List.dropLast_concat]
      rw [hdl]
      have I1 : FI g M W.met h st0 (fun r => r = p) Tk ⟨st.heads, st.outer, st.top, ini⟩ := ⟨I.hl, I.ol, I.tp, I.rt, I.tk, I.ou, fun q hq => I.op q (by rw [hini]; exact List.mem_append_left _ hq), fun r hr => by
        rcases I.cl r hr with e | e | e
        · rw [hini] at e
          rcases List.mem_append.1 e with e | e
          · exact Or.inl e
          · exact Or.inr (Or.inl (List.mem_singleton.1 e))
        · exact e.elim
        · exact Or.inr (Or.inr e)⟩
      obtain ⟨st1, T1, l1, a1, a2, a3, a4, a5, a6, a7, a8⟩ := gTakes_ok D DT N H K hK z hz p hbp l Tk _ I1 (fun q hq => ⟨(gPreds_mem g p q l hl).1 hq, gPreds_lt g l (List.mem_of_getElem? hl) q hq⟩)
      rw [a1]
      simp only at a4 a5 a6 a7 ⊢
      have I2 : FI g M W.met h st0 (fun _ => False) T1 st1 := ⟨a2.hl, a2.ol, a2.tp, a2.rt, a2.tk, a2.ou, a2.op, fun r hr => by
        rcases a2.cl r hr with e | e | e
        · exact Or.inl e
        · subst e
          exact Or.inr (Or.inr (fun q hq hqM => a3 q ((gPreds_mem g r q l hl).2 hq) hqM))
        · exact Or.inr (Or.inr e)⟩
      obtain ⟨st2, T2, b1, b2, b3, b4, b5⟩ := gMore_ok D DT N H K hK z hz hzp k T1 st1 I2 (by
        rw [a6, List.length_append]
        rw [hini] at hk
        simp only [List.length_append, List.length_cons, List.length_nil] at hk
        omega)
      exact ⟨st2, T2, b1, b2, b3, fun q hq => b4 q (a4 q hq), b5.trans a5⟩
theorem gBack_ok (D : DfsF g M wb) (DT : DtF g M d W) {P : Nat → Prop} {st0 : GN} (N : NI g M W.met P st0) {h : Nat} (H : HK g M W.met P h) (K : Nat) (hK : W.met.length < K) : ∀ (l : List Nat) (Tk : Nat → Prop) (st : GN), FI g M W.met h st0 (fun _ => False) Tk st → (∀ p ∈ l, EdgG g p h ∧ p < g.length) →
    ∃ st' Tk', gBack K h ⟨gPreds g, gPlaces g.length W.met, gPlaces g.length W.left⟩ l st = some st' ∧ FI g M W.met h st0 (fun _ => False) Tk' st' ∧ (∀ p ∈ l, Tl g M h p → Rt st'.top p h) ∧ (∀ q, Rt st.top q h → Rt st'.top q h) ∧ rts g.length st'.top + st'.opn.length = rts g.length st.top + st.opn.length ∧
      (∀ q : Nat, st'.heads[q]? = some true ↔ (st.heads[q]? = some true ∨ (q = h ∧ ∃ p ∈ l, Tl g M h p)))
  | [], Tk, st, I, _ => ⟨st, Tk, rfl, I, fun p hp => by (cases hp), fun q hq => hq, rfl, fun q => by simp⟩
  | p :: l, Tk, st, I, hl => by
    obtain ⟨hE, hpn⟩ := hl p (List.mem_cons_self ..)
    have hhn := D.lt h H.mem
    obtain ⟨b, b1, b2⟩ := DT.dm h p H.mem hpn
    rw [gBack, b1]
    cases b with
    | false =>
      simp only
      have hnt : ¬ Tl g M h p := fun c => by have := b2.2 ⟨c.2.1, c.2.2⟩; cases this
      obtain ⟨st2, T2, c1, c2, c3, c4, c5, c6⟩ := gBack_ok D DT N H K hK l Tk st I (fun q hq => hl q (List.mem_cons_of_mem _ hq))
      refine ⟨st2, T2, c1, c2, fun q hq ht => ?_, c4, c5, fun q => (c6 q).trans ⟨?_, ?_⟩⟩
      · rcases List.mem_cons.1 hq with e | e
        · rw [e] at ht; exact absurd ht hnt
        · exact c3 q e ht
      · rintro (e | ⟨e1, t, e2, e3⟩)
        · exact Or.inl e
        · exact Or.inr ⟨e1, t, List.mem_cons_of_mem _ e2, e3⟩
      · rintro (e | ⟨e1, t, e2, e3⟩)
        · exact Or.inl e
        · rcases List.mem_cons.1 e2 with f | f
          · rw [f] at e3; exact absurd e3 hnt
          · exact Or.inr ⟨e1, t, f, e3⟩
    | true =>
      simp only
      obtain ⟨hpM, hpd⟩ := b2.1 rfl
      have hT : Tl g M h p := ⟨hE, hpM, hpd⟩
      have hp : p = h ∨ BL g M h p := by
        by_cases e : p = h
        · exact Or.inl e
        · exact Or.inr (.tail hT e)
      have I1 : FI g M W.met h st0 (fun _ => False) Tk ⟨st.heads.set h true, st.outer, st.top, st.opn⟩ := ⟨by simp [I.hl], I.ol, I.tp, I.rt, I.tk, I.ou, I.op, I.cl⟩
      obtain ⟨st1, T1, l1, a1, a2, a3, a4, a5, a6, a7, a8⟩ := gTake_ok D DT N H I1 K hK p hp
      rw [a1]
      simp only at a4 a5 a6 a7 ⊢
      obtain ⟨st2, T2, c1, c2, c3, c4, c5, c6⟩ := gBack_ok D DT N H K hK l T1 st1 a2 (fun q hq => hl q (List.mem_cons_of_mem _ hq))
      refine ⟨st2, T2, c1, c2, fun q hq ht => ?_, fun q hq => c4 q (a4 q hq), ?_, fun q => (c6 q).trans ?_⟩
      · rcases List.mem_cons.1 hq with e | e
        · rw [e]; exact c4 p a3
        · exact c3 q e ht
      · rw [a6, List.length_append] at c5
        omega
      · rw [a5, List.getElem?_set]
        by_cases e : h = q
        · subst e
          rw [if_pos rfl, if_pos (by rw [I.hl]; exact hhn)]
          exact ⟨fun _ => Or.inr ⟨rfl, p, List.mem_cons_self .., hT⟩, fun _ => Or.inl rfl⟩
        · rw [if_neg e]
          exact ⟨fun c => c.elim Or.inl (fun c => absurd c.1.symm e), fun c => c.elim Or.inl (fun c => absurd c.1.symm e)⟩
/-- h's Loop was found. -/
theorem gFind_ok (D : DfsF g M wb) (DT : DtF g M d W) {P : Nat → Prop} {st0 : GN} (N : NI g M W.met P st0) {h : Nat} (H : HK g M W.met P h) (hPh : ¬ P h) (K : Nat) (hK : g.length + 1 < K) : ∃ st', gFind K h ⟨gPreds g, gPlaces g.length W.met, gPlaces g.length W.left⟩ st0 = some st' ∧ NI g M W.met (fun k => P k ∨ k = h) st' := by
  have hlt2 : ∀ q ∈ W.met, q < g.length := fun q hq => D.lt q ((DT.mm q).1 hq)
  have hwl := nodup_len g.length W.met DT.nd hlt2
  have hhn := D.lt h H.mem
  obtain ⟨l, hl⟩ : ∃ l, (gPreds g)[h]? = some l := ⟨_, List.getElem?_eq_getElem (by rw [gPreds_len]; exact hhn)⟩
  have I0 : FI g M W.met h st0 (fun _ => False) (fun _ => False) st0 := ⟨N.hl, N.ol, N.tp, fun p r0 hp => ⟨fun c => c.elim, fun _ => hp⟩, fun r c => c.elim, fun q => ⟨fun c => c.elim, fun _ => rfl⟩, fun q hq => by (rw [N.op] at hq; cases hq), fun r c => c.elim⟩
  obtain ⟨st1, T1, a1, a2, a3, a4, a5, a6⟩ := gBack_ok D DT N H K (by omega) l _ st0 I0 (fun q hq => ⟨(gPreds_mem g h q l hl).1 hq, gPreds_lt g l (List.mem_of_getElem? hl) q hq⟩)
  have hrl := rts_le g.length st0.top
  obtain ⟨st2, T2, b1, b2, b3, b4, b5⟩ := gMore_ok D DT N H K (by omega) ⟨gPreds g, gPlaces g.length W.met, gPlaces g.length W.left⟩ rfl rfl K T1 st1 a2 (by
    rw [N.op] at a5
    simp only [List.length_nil, Nat.add_zero] at a5
    omega)
  refine ⟨st2, by unfold gFind; simp only [hl, a1]; exact b1, ?_⟩
  have hcl : ∀ r, T2 r → ∀ q, EdgG g q r → q ∈ M → Rt st2.top q h := fun r hr => by
    rcases b2.cl r hr with e | e | e
    · rw [b3] at e; cases e
    · exact e.elim
    · exact e
  have hself := N.self D DT H
  have hnh : ¬ T2 h := fun c => (b2.tk h c).2.ne rfl
  have anti : ∀ a b, BL g M a b → BL g M b a → False := fun a b p q => p.anti D q.dom
  -- a root of st0 is in no Loop found before
  have rootNo : ∀ r, Rt st0.top r r → ∀ k, P k → ¬ BL g M k r := fun r hr k hk hb => by
    obtain ⟨r2, c1, c2, c3⟩ := N.r2 k r hk hb
    obtain rfl := hr.uniq c1
    rcases c3 with e | e
    · subst e; exact hb.ne rfl
    · exact anti _ _ hb e
  have toH : ∀ k p, P k → BL g M k p → BL g M h p → BL g M h k := fun k p hk b1 b2 => by
    rcases b2.common D b1 with e | e | e
    · subst e; exact absurd hk hPh
    · exact e
    · exact absurd e.dom (H.nP k hk)
  -- all of h's Loop have h as their root
  have inH : ∀ p, BL g M h p → Rt st2.top p h := by
    intro p hb
    induction hb with
    | tail t ne => exact b4 _ (a3 _ ((gPreds_mem g h _ l hl).2 t.1) t)
    | @back q p hp e m ne ih =>
      obtain ⟨r0, hr0⟩ := N.tp.any DT.nd p (D.lt p hp.mem)
      have hT : T2 r0 := Classical.byContradiction fun c => by
        have := ((b2.rt p r0 hr0).2 c).uniq ih
        subst this
        rcases N.r1 p r0 hr0 with e2 | ⟨e2, _⟩
        · exact hp.ne e2.symm
        · exact hPh e2
      rcases N.r1 p r0 hr0 with e2 | ⟨e2, e3⟩
      · subst e2; exact hcl r0 hT q e m
      · by_cases hq : q = r0
        · subst hq
          exact (b2.rt q q (.self hr0.root)).1 hT
        · have hbq : BL g M r0 q := .back e3 e m hq
          obtain ⟨r2, c1, c2, c3⟩ := N.r2 r0 q e2 hbq
          have : r2 = r0 := by
            rcases c3 with e4 | e4
            · exact e4
            · exact absurd e4 (rootNo r0 (.self hr0.root) r2 c2)
          subst this
          exact (b2.rt q r2 c1).1 hT
  have rtBack : ∀ p r, Rt st2.top p r → ∃ r0, Rt st0.top p r0 ∧ ((T2 r0 ∧ r = h) ∨ (¬ T2 r0 ∧ r = r0)) := fun p r hp => by
    have hpn : p < g.length := by
      cases hp with
      | self e => have := (List.getElem?_eq_some_iff.1 e).1; rw [b2.tp.len] at this; exact this
      | step e _ _ => have := (List.getElem?_eq_some_iff.1 e).1; rw [b2.tp.len] at this; exact this
    obtain ⟨r0, hr0⟩ := N.tp.any DT.nd p hpn
    by_cases hT : T2 r0
    · exact ⟨r0, hr0, Or.inl ⟨hT, hp.uniq ((b2.rt p r0 hr0).1 hT)⟩⟩
    · exact ⟨r0, hr0, Or.inr ⟨hT, hp.uniq ((b2.rt p r0 hr0).2 hT)⟩⟩
  refine ⟨b2.hl, b2.ol, b2.tp, b3, fun p r hp => ?_, fun k p hk hb => ?_, fun p k hpk => ?_, fun p hpn k hk hb => ?_, fun q => ?_⟩
  · obtain ⟨r0, hr0, ⟨hT, e⟩ | ⟨hT, e⟩⟩ := rtBack p r hp
    · subst e
      have hbr := (b2.tk r0 hT).2
      rcases N.r1 p r0 hr0 with e2 | ⟨e2, e3⟩
      · subst e2; exact Or.inr ⟨Or.inr rfl, hbr⟩
      · exact Or.inr ⟨Or.inr rfl, hbr.trans D e3⟩
    · subst e
      exact (N.r1 p r hr0).imp id (fun c => ⟨Or.inl c.1, c.2⟩)
  · rcases hk with hk | hk
    · obtain ⟨r, c1, c2, c3⟩ := N.r2 k p hk hb
      by_cases hT : T2 r
      · refine ⟨h, (b2.rt p r c1).1 hT, Or.inr rfl, Or.inr ?_⟩
        have hbr := (b2.tk r hT).2
        rcases c3 with e | e
        · subst e; exact hbr
        · exact hbr.trans D e
      · exact ⟨r, (b2.rt p r c1).2 hT, Or.inl c2, c3⟩
    · subst hk; exact ⟨k, inH p hb, Or.inr rfl, Or.inl rfl⟩
  · by_cases hT : T2 p
    · rw [(b2.ou p).1 hT] at hpk
      injection hpk with hpk
      injection hpk with hpk
      subst hpk
      have ht := b2.tk p hT
      refine ⟨Or.inr rfl, ht.2, fun k2 hk2 hb2 => ?_⟩
      rcases hk2 with hk2 | hk2
      · exact absurd hb2 (rootNo p ht.1 k2 hk2)
      · exact Or.inl hk2
    · rw [(b2.ou p).2 hT] at hpk
      obtain ⟨c1, c2, c3⟩ := N.o1 p k hpk
      refine ⟨Or.inl c1, c2, fun k2 hk2 hb2 => ?_⟩
      rcases hk2 with hk2 | hk2
      · exact c3 k2 hk2 hb2
      · subst hk2; exact Or.inr (toH k p c1 c2 hb2)
  · by_cases hT : T2 p
    · rw [(b2.ou p).1 hT] at hpn
      injection hpn with hpn
      cases hpn
    · rw [(b2.ou p).2 hT] at hpn
      rcases hk with hk | hk
      · exact N.o2 p hpn k hk hb
      · subst hk
        obtain ⟨r0, hr0, ⟨c1, _⟩ | ⟨c1, c2⟩⟩ := rtBack p k (inH p hb)
        · rcases N.r1 p r0 hr0 with e | ⟨e1, e2⟩
          · subst e; exact hT c1
          · exact N.o2 p hpn r0 e1 e2
        · subst c2
          rcases N.r1 p k hr0 with e | ⟨e1, _⟩
          · exact hb.ne e.symm
          · exact hPh e1
  · rw [b5, a6, N.hd]
    constructor
    · rintro (⟨e1, e2⟩ | ⟨e1, t, e2, e3⟩)
      · exact ⟨Or.inl e1, e2⟩
      · subst e1; exact ⟨Or.inr rfl, t, e3⟩
    · rintro ⟨e1 | e1, t, e2⟩
      · exact Or.inl ⟨e1, t, e2⟩
      · subst e1; exact Or.inr ⟨rfl, t, (gPreds_mem g q t l hl).2 e2.1, e2⟩
end
end Go.Proofs.Ytpfjafjpijmckaa

/- Plain: what Loops tells. -/
set_option linter.unusedSimpArgs false
set_option linter.unusedVariables false
namespace Go.Proofs.Ytpfjafjpijmckaa
open Go.RowKit

section
variable {g : List (List Int)} {M : List Nat} {wb : List (Option Nat)} {d : List (Option Nat)} {W : GW}
theorem gFinds_ok (D : DfsF g M wb) (DT : DtF g M d W) (K : Nat) (hK : g.length + 1 < K) : ∀ (i : Nat) (st : GN), i ≤ W.met.length → NI g M W.met (fun k => ∃ j : Nat, i ≤ j ∧ W.met[j]? = some k) st → ∃ st', gFinds K ⟨gPreds g, gPlaces g.length W.met, gPlaces g.length W.left⟩ (W.met.take i).reverse st = some st' ∧ NI g M W.met (fun k => k ∈ M) st'
  | 0, st, _, N => by
    have : (fun k => ∃ j : Nat, 0 ≤ j ∧ W.met[j]? = some k) = fun k => k ∈ M := funext fun k => propext ⟨fun ⟨j, _, hj⟩ => (DT.mm k).1 (List.mem_of_getElem? hj), fun hk => by
      obtain ⟨j, hj⟩ := List.getElem?_of_mem ((DT.mm k).2 hk)
      exact ⟨j, Nat.zero_le _, hj⟩⟩
    rw [this] at N
    exact ⟨st, rfl, N⟩
  | i + 1, st, hi, N => by
    have hlt : i < W.met.length := by omega
    have hh : W.met[i]? = some W.met[i] := List.getElem?_eq_getElem hlt
    rw [List.take_add_one, hh, Option.toList_some, List.reverse_append, List.reverse_singleton, List.singleton_append]
    generalize W.met[i] = h at hh
    have H : HK g M W.met (fun k => ∃ j : Nat, i + 1 ≤ j ∧ W.met[j]? = some k) h := ⟨(DT.mm h).1 (List.mem_of_getElem? hh), fun r ⟨j, hj, hr⟩ hd => by
      have := DT.od j i r h hr hh hd
      omega, fun r ⟨j, _, hr⟩ => (DT.mm r).1 (List.mem_of_getElem? hr)⟩
    have hPh : ¬ ∃ j : Nat, i + 1 ≤ j ∧ W.met[j]? = some h := fun ⟨j, hj, hr⟩ => by
      have := nd_inj DT.nd hr hh
      omega
    obtain ⟨st1, a1, a2⟩ := gFind_ok D DT N H hPh K hK
    rw [gFinds, a1]
    simp only
    refine gFinds_ok D DT K hK i st1 (by omega) ?_
    have : (fun k => (∃ j : Nat, i + 1 ≤ j ∧ W.met[j]? = some k) ∨ k = h) = fun k => ∃ j : Nat, i ≤ j ∧ W.met[j]? = some k := funext fun k => propext ⟨fun c => by
      rcases c with ⟨j, hj, hr⟩ | e
      · exact ⟨j, by omega, hr⟩
      · subst e; exact ⟨i, Nat.le_refl _, hh⟩, fun ⟨j, hj, hr⟩ => by
      by_cases e : j = i
      · subst e
        rw [hh] at hr
        exact Or.inr (Option.some.inj hr).symm
      · exact Or.inl ⟨j, by omega, hr⟩⟩
    rw [this] at a2
    exact a2
theorem NI.start (DT : DtF g M d W) : NI g M W.met (fun k => ∃ j : Nat, W.met.length ≤ j ∧ W.met[j]? = some k) ⟨List.replicate g.length false, List.replicate g.length none, List.range g.length, []⟩ := by
  have no : ∀ k, ¬ ∃ j : Nat, W.met.length ≤ j ∧ W.met[j]? = some k := fun k ⟨j, hj, hr⟩ => by
    have := (List.getElem?_eq_some_iff.1 hr).1
    omega
  have hr : ∀ p t : Nat, (List.range g.length)[p]? = some t → t = p ∧ p < g.length := fun p t h => by
    have := (List.getElem?_eq_some_iff.1 h).1
    rw [List.length_range] at this
    rw [List.getElem?_range this] at h
    exact ⟨(Option.some.inj h).symm, this⟩
  refine ⟨by simp, by simp, ⟨by simp, fun p t h => ?_⟩, rfl, fun p r h => ?_, fun k p hk => absurd hk (no k), fun p k h => ?_, fun p _ k hk => absurd hk (no k), fun h => ?_⟩
  · obtain ⟨e1, e2⟩ := hr p t h
    exact ⟨by omega, Or.inl e1⟩
  · cases h with
    | self _ => exact Or.inl rfl
    | step e ne _ => exact absurd (hr p _ e).1 ne
  · rw [List.getElem?_replicate] at h
    split at h
    · injection h with h; cases h
    · cases h
  · rw [List.getElem?_replicate]
    constructor
    · intro c
      split at c
      · injection c with c; cases c
      · cases c
    · rintro ⟨c, _⟩
      exact absurd c (no h)
end
theorem gNest_ok (g : List (List Int)) (K : Nat) (F : GW) (hn : g.length ≠ 0) (hF : gWalk g K = some F) (hK : 2 * g.length + 1 ≤ K) (hK2 : g.length + 1 < K) : ∃ z st ws, gNest g K = some (z, st) ∧ NI g F.met ws (fun k => k ∈ F.met) st ∧ ws.Nodup ∧ ∀ i j a b : Nat, ws[i]? = some a → ws[j]? = some b → Dom g a b → i ≤ j := by
  obtain ⟨d, d1, d2⟩ := gDoms_ok g K F hn hF (by omega)
  obtain ⟨ks, W, k1, k2, k3⟩ := dtree g K F d hn hF d2 hK
  obtain ⟨D, _, _⟩ := gWalk_dfs g K F hn hF
  obtain ⟨st, s1, s2⟩ := gFinds_ok D k3 K hK2 W.met.length _ (Nat.le_refl _) (NI.start k3)
  rw [List.take_length] at s1
  refine ⟨⟨gPreds g, gPlaces g.length W.met, gPlaces g.length W.left⟩, st, W.met, ?_, s2, k3.nd, k3.od⟩
  unfold gNest
  rw [d1]
  simp only [k1, k2, s1]

/-- On the way outward. -/
inductive InCh (outer : List (Option Nat)) : Option Nat → Nat → Prop
  | here {h : Nat} : InCh outer (some h) h
  | up {h k : Nat} {o : Option Nat} : outer[h]? = some o → InCh outer o k → InCh outer (some h) k
section
variable {g : List (List Int)} {M : List Nat} {wb : List (Option Nat)} {ws : List Nat} {st : GN}
theorem NI.ch_bl (D : DfsF g M wb) (N : NI g M ws (fun k => k ∈ M) st) {p : Nat} : ∀ {o : Option Nat} {k : Nat}, InCh st.outer o k → ∀ h, o = some h → (h = p ∨ BL g M h p) → (k = p ∨ BL g M k p) ∧ (k = h ∨ BL g M k h) := by
  intro o k hc
  induction hc with
  | here => intro h e hp; injection e with e; subst e; exact ⟨hp, Or.inl rfl⟩
  | @up h0 k o e c ih =>
    intro h e2 hp
    injection e2 with e2
    subst e2
    cases o with
    | none => cases c
    | some h1 =>
      obtain ⟨_, b, _⟩ := N.o1 h0 h1 e
      obtain ⟨r1, r2⟩ := ih h1 rfl (by
        rcases hp with e3 | e3
        · subst e3; exact Or.inr b
        · exact Or.inr (b.trans D e3))
      refine ⟨r1, Or.inr ?_⟩
      rcases r2 with e3 | e3
      · subst e3; exact b
      · exact e3.trans D b
theorem NI.bl_ch (D : DfsF g M wb) (N : NI g M ws (fun k => k ∈ M) st) : ∀ (c np p k : Nat), np ≤ c → M[np]? = some p → BL g M k p → ∃ o, st.outer[p]? = some o ∧ InCh st.outer o k := by
  intro c
  induction c with
  | zero =>
    intro np p k hc hp hb
    have hk := hb.hmem D
    obtain ⟨nk, hnk⟩ := List.getElem?_of_mem hk
    have h1 := (hb.dom.up D hnk hp).le D
    have : nk = np := by omega
    subst this
    rw [hnk] at hp
    exact absurd (Option.some.inj hp).symm hb.ne
  | succ c ih =>
    intro np p k hc hp hb
    have hpn := D.lt p hb.mem
    have e : st.outer[p]? = some (st.outer[p]'(by rw [N.ol]; exact hpn)) := List.getElem?_eq_getElem _
    generalize st.outer[p]'(by rw [N.ol]; exact hpn) = o at e
    refine ⟨o, e, ?_⟩
    cases o with
    | none => exact absurd hb (N.o2 p e k (hb.hmem D))
    | some k0 =>
      obtain ⟨c1, c2, c3⟩ := N.o1 p k0 e
      rcases c3 k (hb.hmem D) hb with e2 | e2
      · subst e2; exact .here
      · obtain ⟨n0, hn0⟩ := List.getElem?_of_mem c1
        have h1 := (c2.dom.up D hn0 hp).le D
        have h2 : n0 ≠ np := fun e3 => by
          subst e3
          rw [hn0] at hp
          exact c2.ne (Option.some.inj hp).symm
        obtain ⟨o2, e3, e4⟩ := ih n0 k0 k (by omega) hn0 e2
        exact .up e3 e4
/-- The Loops that have a point. -/
theorem NI.inm (D : DfsF g M wb) (N : NI g M ws (fun k => k ∈ M) st) (p : Nat) (hp : p < g.length) : ∃ o, gInm st p = some o ∧ ∀ k, InCh st.outer o k ↔ ((k = p ∧ p ∈ M ∧ ∃ t, Tl g M p t) ∨ BL g M k p) := by
  have e : st.outer[p]? = some (st.outer[p]'(by rw [N.ol]; exact hp)) := List.getElem?_eq_getElem _
  generalize st.outer[p]'(by rw [N.ol]; exact hp) = o at e
  have eh : st.heads[p]? = some (st.heads[p]'(by rw [N.hl]; exact hp)) := List.getElem?_eq_getElem _
  generalize st.heads[p]'(by rw [N.hl]; exact hp) = b at eh
  have hbl : ∀ k, BL g M k p → InCh st.outer o k := fun k hb => by
    obtain ⟨np, hnp⟩ := List.getElem?_of_mem hb.mem
    obtain ⟨o2, e2, e3⟩ := N.bl_ch D np np p k (Nat.le_refl _) hnp hb
    rw [e] at e2
    injection e2 with e2
    subst e2
    exact e3
  have hou : ∀ k, InCh st.outer o k → BL g M k p := fun k hc => by
    cases o with
    | none => cases hc
    | some k0 =>
      obtain ⟨_, c2, _⟩ := N.o1 p k0 e
      obtain ⟨_, r2⟩ := N.ch_bl D hc k0 rfl (Or.inr c2)
      rcases r2 with e2 | e2
      · subst e2; exact c2
      · exact e2.trans D c2
  unfold gInm
  rw [eh]
  cases b with
  | true =>
    simp only
    have hh := (N.hd p).1 eh
    refine ⟨some p, rfl, fun k => ⟨fun hc => ?_, fun hc => ?_⟩⟩
    · cases hc with
      | here => exact Or.inl ⟨rfl, hh⟩
      | up e2 c =>
        rw [e] at e2
        injection e2 with e2
        subst e2
        exact Or.inr (hou k c)
    · rcases hc with ⟨e1, _⟩ | hb
      · subst e1; exact .here
      · exact .up e (hbl k hb)
  | false =>
    simp only
    refine ⟨o, e, fun k => ⟨fun hc => Or.inr (hou k hc), fun hc => ?_⟩⟩
    rcases hc with ⟨e1, h2⟩ | hb
    · have := (N.hd p).2 h2
      rw [eh] at this
      cases this
    · exact hbl k hb
end

/-- The heads in order. -/
theorem gHeads_ok : ∀ (hb : List Bool) (i : Nat) (pl : List (Option Nat)) (ls : List GL), pl.length = i + hb.length →
    ∃ pl', gHeads hb i pl ls = (pl', ls ++ ((List.range hb.length).filter (fun j => hb[j]? == some true)).map (fun j => ⟨i + j, [], none⟩)) ∧ pl'.length = pl.length ∧ (∀ q : Nat, q < i → pl'[q]? = pl[q]?) ∧
      ∀ (j t : Nat), ((List.range hb.length).filter (fun j => hb[j]? == some true))[t]? = some j → pl'[i + j]? = some (some (ls.length + t))
  | [], i, pl, ls, h => ⟨pl, by simp [gHeads], rfl, fun q _ => rfl, fun j t ht => by simp at ht⟩
  | b :: r, i, pl, ls, h => by
    have hf : (List.range (b :: r).length).filter (fun j => (b :: r)[j]? == some true) = (if b then [0] else []) ++ ((List.range r.length).filter (fun j => r[j]? == some true)).map (· + 1) := by
      rw [List.length_cons, List.range_succ_eq_map, List.filter_cons, List.filter_map]
      cases b <;> simp [Function.comp_def]
    rw [hf]
    cases b with
    | false =>
      obtain ⟨pl', a1, a2, a3, a4⟩ := gHeads_ok r (i + 1) pl ls (by simp at h; omega)
      refine ⟨pl', ?_, a2, fun q hq => a3 q (by omega), fun j t ht => ?_⟩
      · rw [gHeads, a1]
        simp only [Bool.false_eq_true, if_false, List.nil_append, List.map_map]
        congr 3
        funext j
        simp only [Function.comp_apply]
        congr 1
        omega
      · simp only [Bool.false_eq_true, if_false, List.nil_append] at ht
        rw [List.getElem?_map] at ht
        cases hj : ((List.range r.length).filter (fun j => r[j]? == some true))[t]? with
        | none => rw [hj] at ht; cases ht
        | some j0 =>
          rw [hj] at ht
          simp only [Option.map_some, Option.some.injEq] at ht
          have := a4 j0 t hj
          rw [← ht, show i + (j0 + 1) = i + 1 + j0 by omega]
          exact this
    | true =>
      have hil : i < pl.length := by simp at h; omega
      obtain ⟨pl', a1, a2, a3, a4⟩ := gHeads_ok r (i + 1) (pl.set i (some ls.length)) (ls ++ [⟨i, [], none⟩]) (by simp at h ⊢; omega)
      refine ⟨pl', ?_, by rw [a2, List.length_set], fun q hq => ?_, fun j t ht => ?_⟩
      · rw [gHeads, a1]
        simp only [if_true, List.map_append, List.map_cons, List.map_nil, List.append_assoc, List.map_map, Nat.add_zero]
        congr 4
        funext j
        simp only [Function.comp_apply]
        congr 1
        omega
      · rw [a3 q (by omega), List.getElem?_set, if_neg (by omega)]
      · simp only [if_true] at ht
        cases t with
        | zero =>
          simp at ht
          subst ht
          rw [Nat.add_zero, a3 i (by omega), List.getElem?_set_self hil, Nat.add_zero]
        | succ t =>
          rw [List.singleton_append, List.getElem?_cons_succ, List.getElem?_map] at ht
          cases hj : ((List.range r.length).filter (fun j => r[j]? == some true))[t]? with
          | none => rw [hj] at ht; cases ht
          | some j0 =>
            rw [hj] at ht
            simp only [Option.map_some, Option.some.injEq] at ht
            have := a4 j0 t hj
            rw [← ht, show i + (j0 + 1) = i + 1 + j0 by omega, this, List.length_append]
            simp only [List.length_cons, List.length_nil]
            congr 2
            omega
end Go.Proofs.Ytpfjafjpijmckaa

/- Plain: what Loops answers. -/
set_option linter.unusedSimpArgs false
set_option linter.unusedVariables false
namespace Go.Proofs.Ytpfjafjpijmckaa
open Go.RowKit

/-- The same Loops, but for where they stand. -/
theorem gIns_ok (outer pl : List (Option Nat)) : ∀ (k i : Nat) (ls : List GL), i + k = ls.length → (∀ (t : Nat) (x : GL), ls[t]? = some x → ∃ o, outer[x.head]? = some o ∧ ∀ a, o = some a → ∃ y, pl[a]? = some y) →
    ∃ ls', gIns outer pl k i ls = some ls' ∧ ls'.length = ls.length ∧ ∀ (t : Nat) (x : GL), ls[t]? = some x → ∃ y, ls'[t]? = some y ∧ y.head = x.head ∧ y.body = x.body ∧ (t < i → y.ins = x.ins) ∧ (i ≤ t → ∃ o, outer[x.head]? = some o ∧ ((o = none ∧ y.ins = x.ins) ∨ ∃ a, o = some a ∧ pl[a]? = some y.ins))
  | 0, i, ls, h, _ => ⟨ls, rfl, rfl, fun t x hx => ⟨x, hx, rfl, rfl, fun _ => rfl, fun hi => by have := (List.getElem?_eq_some_iff.1 hx).1; omega⟩⟩
  | k + 1, i, ls, h, ho => by
    have hil : i < ls.length := by omega
    have hx : ls[i]? = some ls[i] := List.getElem?_eq_getElem hil
    generalize ls[i] = x at hx
    obtain ⟨o, ho1, ho2⟩ := ho i x hx
    rw [gIns, hx]
    simp only [ho1]
    cases o with
    | none =>
      simp only
      obtain ⟨ls', a1, a2, a3⟩ := gIns_ok outer pl k (i + 1) ls (by omega) ho
      refine ⟨ls', a1, a2, fun t y hy => ?_⟩
      obtain ⟨z, b1, b2, b3, b4, b5⟩ := a3 t y hy
      refine ⟨z, b1, b2, b3, fun ht => b4 (by omega), fun ht => ?_⟩
      by_cases e : t = i
      · subst e
        rw [hx] at hy
        injection hy with hy
        subst hy
        exact ⟨none, ho1, Or.inl ⟨rfl, b4 (by omega)⟩⟩
      · exact b5 (by omega)
    | some a =>
      simp only
      obtain ⟨y0, hy0⟩ := ho2 a rfl
      rw [hy0]
      simp only
      obtain ⟨ls', a1, a2, a3⟩ := gIns_ok outer pl k (i + 1) (ls.set i ⟨x.head, x.body, y0⟩) (by rw [List.length_set]; omega) (fun t y hy => by
        rw [List.getElem?_set] at hy
        split at hy
        · injection hy with hy
          subst hy
          exact ho i x hx
        · exact ho t y hy)
      refine ⟨ls', a1, by rw [a2, List.length_set], fun t y hy => ?_⟩
      by_cases e : t = i
      · subst e
        rw [hx] at hy
        injection hy with hy
        subst hy
        obtain ⟨z, b1, b2, b3, b4, b5⟩ := a3 t ⟨x.head, x.body, y0⟩ (by rw [List.getElem?_set_self hil])
        exact ⟨z, b1, b2, b3, fun ht => by omega, fun _ => ⟨some a, ho1, Or.inr ⟨a, rfl, by rw [b4 (by omega)]; exact hy0⟩⟩⟩
      · obtain ⟨z, b1, b2, b3, b4, b5⟩ := a3 t y (by rw [List.getElem?_set, if_neg (Ne.symm e)]; exact hy)
        exact ⟨z, b1, b2, b3, fun ht => b4 (by omega), fun ht => b5 (by omega)⟩

/-- A point is put into the Loops on its way outward. -/
def StB (outer : List (Option Nat)) (o : Option Nat) (p : Nat) (ls ls' : List GL) : Prop := ls'.length = ls.length ∧ ∀ (t : Nat) (x : GL), ls[t]? = some x → ∃ y, ls'[t]? = some y ∧ y.head = x.head ∧ y.ins = x.ins ∧ ((InCh outer o x.head ∧ y.body = x.body ++ [p]) ∨ (¬ InCh outer o x.head ∧ y.body = x.body))
section
variable {g : List (List Int)} {M : List Nat} {wb : List (Option Nat)} {ws : List Nat} {st : GN}
/-- The heads of Loops. -/
def Hd' (g : List (List Int)) (M : List Nat) (h : Nat) : Prop := h ∈ M ∧ ∃ t, Tl g M h t
theorem gBod_ok (D : DfsF g M wb) (N : NI g M ws (fun k => k ∈ M) st) (pl : List (Option Nat)) (p : Nat) : ∀ (c nh : Nat) (o : Option Nat) (ls : List GL), (∀ h, o = some h → M[nh]? = some h ∧ Hd' g M h) → (o ≠ none → nh + 1 < c) → 0 < c →
    (∀ (t : Nat) (x : GL), ls[t]? = some x → pl[x.head]? = some (some t)) → (∀ h, Hd' g M h → ∃ (t : Nat) (x : GL), ls[t]? = some x ∧ x.head = h) → ∃ ls', gBod st.outer pl p c o ls = some ls' ∧ StB st.outer o p ls ls'
  | 0, nh, o, ls, _, _, h, _, _ => by omega
  | c + 1, nh, none, ls, _, _, _, _, _ => ⟨ls, by rw [gBod], rfl, fun t x hx => ⟨x, hx, rfl, rfl, Or.inr ⟨fun hc => by (cases hc), rfl⟩⟩⟩
  | c + 1, nh, some h, ls, hh, hc, _, hpl, hex => by
    obtain ⟨hnh, hhd⟩ := hh h rfl
    have hc := hc (by simp)
    obtain ⟨i, x, hx, hxh⟩ := hex h hhd
    have hpi := hpl i x hx
    rw [hxh] at hpi
    have hhn := D.lt h hhd.1
    have e : st.outer[h]? = some (st.outer[h]'(by rw [N.ol]; exact hhn)) := List.getElem?_eq_getElem _
    generalize st.outer[h]'(by rw [N.ol]; exact hhn) = o1 at e
    have hil : i < ls.length := (List.getElem?_eq_some_iff.1 hx).1
    rw [gBod, hpi, e]
    simp only [hx]
    -- the next one out
    have hnext : ∀ h1, o1 = some h1 → Hd' g M h1 ∧ ∃ n1, M[n1]? = some h1 ∧ n1 < nh := fun h1 e1 => by
      rw [e1] at e
      obtain ⟨c1, c2, _⟩ := N.o1 h h1 e
      obtain ⟨n1, hn1⟩ := List.getElem?_of_mem c1
      have h1 := (c2.dom.up D hn1 hnh).le D
      refine ⟨⟨c1, c2.tl⟩, n1, hn1, ?_⟩
      rcases Nat.lt_or_eq_of_le h1 with f | f
      · exact f
      · subst f
        rw [hn1] at hnh
        exact absurd (Option.some.inj hnh).symm c2.ne
    have hnot : ¬ InCh st.outer o1 h := fun hc2 => by
      cases o1 with
      | none => cases hc2
      | some h1 =>
        obtain ⟨_, c2, _⟩ := N.o1 h h1 e
        obtain ⟨_, r2⟩ := N.ch_bl D hc2 h1 rfl (Or.inr c2)
        rcases r2 with f | f
        · exact c2.ne f
        · exact f.anti D c2.dom
    have hset : ∀ (t : Nat) (y : GL), (ls.set i ⟨x.head, x.body ++ [p], x.ins⟩)[t]? = some y → ∃ z, ls[t]? = some z ∧ y.head = z.head := fun t y hy => by
      rw [List.getElem?_set] at hy
      split at hy
      · rename_i e2
        subst e2
        injection hy with hy
        subst hy
        exact ⟨x, hx, rfl⟩
      · exact ⟨y, hy, rfl⟩
    obtain ⟨n1, hn1, hn1c⟩ : ∃ n1, (∀ h1, o1 = some h1 → M[n1]? = some h1 ∧ Hd' g M h1) ∧ (o1 ≠ none → n1 + 1 < c) := by
      cases o1 with
      | none => exact ⟨0, fun h1 e1 => by (cases e1), fun c => absurd rfl c⟩
      | some h1 =>
        obtain ⟨f1, n1, f2, f3⟩ := hnext h1 rfl
        exact ⟨n1, fun h2 e2 => by injection e2 with e2; subst e2; exact ⟨f2, f1⟩, fun _ => by omega⟩
    obtain ⟨ls', a1, a2, a3⟩ := gBod_ok D N pl p c n1 o1 (ls.set i ⟨x.head, x.body ++ [p], x.ins⟩) hn1 hn1c (by omega) (fun t y hy => by
      obtain ⟨z, h1, h2⟩ := hset t y hy
      rw [h2]
      exact hpl t z h1) (fun k hk => by
      obtain ⟨t, z, h1, h2⟩ := hex k hk
      by_cases e2 : i = t
      · subst e2
        rw [hx] at h1
        injection h1 with h1
        subst h1
        exact ⟨i, ⟨x.head, x.body ++ [p], x.ins⟩, by rw [List.getElem?_set_self hil], h2⟩
      · exact ⟨t, z, by rw [List.getElem?_set, if_neg e2]; exact h1, h2⟩)
    refine ⟨ls', a1, by rw [a2, List.length_set], fun t y hy => ?_⟩
    by_cases e2 : i = t
    · subst e2
      rw [hx] at hy
      injection hy with hy
      subst hy
      obtain ⟨z, b1, b2, b3, b4⟩ := a3 i ⟨x.head, x.body ++ [p], x.ins⟩ (by rw [List.getElem?_set_self hil])
      refine ⟨z, b1, b2, b3, Or.inl ⟨by rw [hxh]; exact .here, ?_⟩⟩
      rcases b4 with ⟨f1, _⟩ | ⟨_, f2⟩
      · simp only at f1; rw [hxh] at f1; exact absurd f1 hnot
      · exact f2
    · obtain ⟨z, b1, b2, b3, b4⟩ := a3 t y (by rw [List.getElem?_set, if_neg e2]; exact hy)
      have hne : y.head ≠ h := fun e3 => by
        have := hpl t y hy
        rw [e3, hpi] at this
        injection this with this
        injection this with this
        exact e2 this
      refine ⟨z, b1, b2, b3, ?_⟩
      rcases b4 with ⟨f1, f2⟩ | ⟨f1, f2⟩
      · exact Or.inl ⟨.up e f1, f2⟩
      · refine Or.inr ⟨fun hc2 => ?_, f2⟩
        generalize hyy : y.head = k at hc2 f1 hne
        cases hc2 with
        | here => exact hne rfl
        | up e4 c4 =>
          rw [e] at e4
          injection e4 with e4
          subst e4
          exact f1 c4
/-- The bodies. -/
theorem gBods_ok (D : DfsF g M wb) (N : NI g M ws (fun k => k ∈ M) st) (pl : List (Option Nat)) (K : Nat) (hK : M.length + 1 < K) (B : Nat → Nat → Bool) (hB : ∀ h p, Hd' g M h → p < g.length → (B h p = true ↔ ((h = p ∧ Hd' g M p) ∨ BL g M h p))) : ∀ (k p : Nat) (ls : List GL), p + k = g.length → (∀ (t : Nat) (x : GL), ls[t]? = some x → pl[x.head]? = some (some t) ∧ Hd' g M x.head ∧ x.body = (List.range p).filter (B x.head)) → (∀ h, Hd' g M h → ∃ (t : Nat) (x : GL), ls[t]? = some x ∧ x.head = h) →
    ∃ ls', gBods K st pl k p ls = some ls' ∧ ls'.length = ls.length ∧ ∀ (t : Nat) (x : GL), ls[t]? = some x → ∃ y, ls'[t]? = some y ∧ y.head = x.head ∧ y.ins = x.ins ∧ y.body = (List.range g.length).filter (B x.head)
  | 0, p, ls, h, hl, _ => ⟨ls, rfl, rfl, fun t x hx => ⟨x, hx, rfl, rfl, by rw [(hl t x hx).2.2, show p = g.length by omega]⟩⟩
  | k + 1, p, ls, h, hl, hex => by
    have hp : p < g.length := by omega
    obtain ⟨o, o1, o2⟩ := N.inm D p hp
    rw [gBods, o1]
    simp only
    obtain ⟨nh, hnh, hnc⟩ : ∃ nh, (∀ h, o = some h → M[nh]? = some h ∧ Hd' g M h) ∧ (o ≠ none → nh + 1 < K) := by
      cases o with
      | none => exact ⟨0, fun h1 e1 => by (cases e1), fun c => absurd rfl c⟩
      | some h1 =>
        have := (o2 h1).1 .here
        have hd : Hd' g M h1 := by
          rcases this with ⟨e1, e2⟩ | e
          · rw [e1]; exact e2
          · exact ⟨e.hmem D, e.tl⟩
        obtain ⟨n1, hn1⟩ := List.getElem?_of_mem hd.1
        have := (List.getElem?_eq_some_iff.1 hn1).1
        exact ⟨n1, fun h2 e2 => by injection e2 with e2; subst e2; exact ⟨hn1, hd⟩, fun _ => by omega⟩
    obtain ⟨ls1, a1, a2, a3⟩ := gBod_ok D N pl p K nh o ls hnh hnc (by omega) (fun t x hx => (hl t x hx).1) hex
    rw [a1]
    simp only
    have hback : ∀ (t : Nat) (y : GL), ls1[t]? = some y → ∃ x, ls[t]? = some x := fun t y hy => by
      have := (List.getElem?_eq_some_iff.1 hy).1
      rw [a2] at this
      exact ⟨_, List.getElem?_eq_getElem this⟩
    obtain ⟨ls', b1, b2, b3⟩ := gBods_ok D N pl K hK B hB k (p + 1) ls1 (by omega) (fun t y hy => by
      obtain ⟨x, hx⟩ := hback t y hy
      obtain ⟨y2, c1, c2, c3, c4⟩ := a3 t x hx
      rw [hy] at c1
      injection c1 with c1
      subst c1
      obtain ⟨f1, f2, f3⟩ := hl t x hx
      rw [c2]
      refine ⟨f1, f2, ?_⟩
      rw [List.range_succ, List.filter_append]
      have hBp := hB x.head p f2 hp
      rcases c4 with ⟨q1, q2⟩ | ⟨q1, q2⟩
      · have : B x.head p = true := hBp.2 ((o2 _).1 q1)
        rw [q2, f3, List.filter_cons_of_pos this]
        rfl
      · have : ¬ B x.head p = true := fun c => q1 ((o2 _).2 (hBp.1 c))
        rw [q2, f3, List.filter_cons_of_neg this]
        simp) (fun h1 hh1 => by
      obtain ⟨t, x, hx, e⟩ := hex h1 hh1
      obtain ⟨y2, c1, c2, _⟩ := a3 t x hx
      exact ⟨t, y2, c1, by rw [c2]; exact e⟩)
    refine ⟨ls', b1, by rw [b2, a2], fun t x hx => ?_⟩
    obtain ⟨y2, c1, c2, c3, _⟩ := a3 t x hx
    obtain ⟨z, d1, d2, d3, d4⟩ := b3 t y2 c1
    exact ⟨z, d1, d2.trans c2, d3.trans c3, by rw [d4, c2]⟩
end
/-- Loops: heads in order, bodies, where each stands. -/
theorem gLoops_ok (g : List (List Int)) (K : Nat) (F : GW) (hn : g.length ≠ 0) (hF : gWalk g K = some F) (hK : 2 * g.length + 1 ≤ K) (hK2 : g.length + 1 < K) (hb : Nat → Bool) (hhb : ∀ h, h < g.length → (hb h = true ↔ Hd' g F.met h)) (B : Nat → Nat → Bool) (hB : ∀ h p, Hd' g F.met h → p < g.length → (B h p = true ↔ ((h = p ∧ Hd' g F.met p) ∨ BL g F.met h p))) :
    ∃ ls, gLoops g K = some ls ∧ ls.length = ((List.range g.length).filter hb).length ∧ ∀ (t h : Nat), ((List.range g.length).filter hb)[t]? = some h → ∃ x, ls[t]? = some x ∧ x.head = h ∧ x.body = (List.range g.length).filter (B h) ∧
      ((x.ins = none ∧ ∀ k, ¬ BL g F.met k h) ∨ ∃ (a t2 : Nat), x.ins = some t2 ∧ ((List.range g.length).filter hb)[t2]? = some a ∧ BL g F.met a h ∧ ∀ k2, BL g F.met k2 h → k2 = a ∨ BL g F.met k2 a) := by
  obtain ⟨z, st, ws, n1, N, hws, _⟩ := gNest_ok g K F hn hF hK hK2
  obtain ⟨D, _, _⟩ := gWalk_dfs g K F hn hF
  have hM := nodup_len g.length F.met D.nd D.lt
  obtain ⟨pl, p1, p2, p3, p4⟩ := gHeads_ok st.heads 0 (List.replicate g.length none) [] (by rw [List.length_replicate, N.hl]; omega)
  have hhs : (List.range st.heads.length).filter (fun j => st.heads[j]? == some true) = (List.range g.length).filter hb := by
    rw [N.hl]
    apply List.filter_congr
    intro h hh
    have hh := List.mem_range.1 hh
    have h1 := hhb h hh
    have h2 := N.hd h
    have e : (st.heads[h]? == some true) = true ↔ hb h = true := by
      rw [h1]
      simp only [beq_iff_eq]
      exact h2
    cases ha : (st.heads[h]? == some true) <;> cases hc : hb h <;> simp_all
  rw [hhs] at p1 p4
  generalize hHS : (List.range g.length).filter hb = hs at *
  have hsm : ∀ h, h ∈ hs ↔ Hd' g F.met h := fun h => by
    rw [← hHS, List.mem_filter, List.mem_range]
    constructor
    · rintro ⟨h1, h2⟩; exact (hhb h h1).1 h2
    · intro h1; have := D.lt h h1.1; exact ⟨this, (hhb h this).2 h1⟩
  simp only [List.nil_append, Nat.zero_add, List.length_nil] at p1 p4
  have hl0 : ∀ (t : Nat) (x : GL), (hs.map (fun j => (⟨j, [], none⟩ : GL)))[t]? = some x → hs[t]? = some x.head ∧ x.body = [] ∧ x.ins = none := fun t x hx => by
    rw [List.getElem?_map] at hx
    cases hj : hs[t]? with
    | none => rw [hj] at hx; cases hx
    | some j =>
      rw [hj] at hx
      simp only [Option.map_some, Option.some.injEq] at hx
      subst hx
      exact ⟨rfl, rfl, rfl⟩
  obtain ⟨ls1, a1, a2, a3⟩ := gIns_ok st.outer pl (hs.map (fun j => (⟨j, [], none⟩ : GL))).length 0 (hs.map (fun j => (⟨j, [], none⟩ : GL))) (by omega) (fun t x hx => by
    have hh := (hsm x.head).1 (List.mem_of_getElem? (hl0 t x hx).1)
    have hhn := D.lt x.head hh.1
    have e : st.outer[x.head]? = some (st.outer[x.head]'(by rw [N.ol]; exact hhn)) := List.getElem?_eq_getElem _
    refine ⟨_, e, fun a ha => ?_⟩
    rw [ha] at e
    obtain ⟨c1, c2, _⟩ := N.o1 x.head a e
    obtain ⟨t2, ht2⟩ := List.getElem?_of_mem ((hsm a).2 ⟨c1, c2.tl⟩)
    exact ⟨_, p4 a t2 ht2⟩)
  have hls1 : ∀ (t : Nat) (y : GL), ls1[t]? = some y → hs[t]? = some y.head ∧ y.body = [] := fun t y hy => by
    have := (List.getElem?_eq_some_iff.1 hy).1
    rw [a2] at this
    obtain ⟨y2, b1, b2, b3, _⟩ := a3 t _ (List.getElem?_eq_getElem this)
    rw [hy] at b1
    injection b1 with b1
    subst b1
    have := hl0 t _ (List.getElem?_eq_getElem this)
    exact ⟨by rw [b2]; exact this.1, by rw [b3]; exact this.2.1⟩
  obtain ⟨ls, b1, b2, b3⟩ := gBods_ok D N pl K (by omega) B hB g.length 0 ls1 (by omega) (fun t x hx => by
    obtain ⟨c1, c2⟩ := hls1 t x hx
    exact ⟨p4 x.head t c1, (hsm x.head).1 (List.mem_of_getElem? c1), by rw [c2]; rfl⟩) (fun h hh => by
    obtain ⟨t, ht⟩ := List.getElem?_of_mem ((hsm h).2 hh)
    obtain ⟨y, c1, c2, _⟩ := a3 t ⟨h, [], none⟩ (by rw [List.getElem?_map, ht]; rfl)
    exact ⟨t, y, c1, c2⟩)
  refine ⟨ls, ?_, by rw [b2, a2, List.length_map], fun t h ht => ?_⟩
  · unfold gLoops
    rw [n1]
    simp only [p1, a1]
    exact b1
  · obtain ⟨y, c1, c2, c3, _, c5⟩ := a3 t ⟨h, [], none⟩ (by rw [List.getElem?_map, ht]; rfl)
    obtain ⟨x, d1, d2, d3, d4⟩ := b3 t y c1
    refine ⟨x, d1, by rw [d2, c2], by rw [d4, c2], ?_⟩
    obtain ⟨o, e1, e2⟩ := c5 (Nat.zero_le _)
    simp only at e1 e2
    rcases e2 with ⟨f1, f2⟩ | ⟨a, f1, f2⟩
    · subst f1
      exact Or.inl ⟨by rw [d3, f2], fun k hk => N.o2 h e1 k (hk.hmem D) hk⟩
    · subst f1
      obtain ⟨g1, g2, g3⟩ := N.o1 h a e1
      obtain ⟨t2, ht2⟩ := List.getElem?_of_mem ((hsm a).2 ⟨g1, g2.tl⟩)
      have := p4 a t2 ht2
      rw [f2] at this
      injection this with this
      exact Or.inr ⟨a, t2, by rw [d3, this], ht2, g2, fun k2 hk2 => g3 k2 (hk2.hmem D) hk2⟩
end Go.Proofs.Ytpfjafjpijmckaa

/- Plain: Loops is the document's. -/
set_option linter.unusedSimpArgs false
set_option linter.unusedVariables false
namespace Go.Proofs.Ytpfjafjpijmckaa
open Go.RowKit

/-- t is a tail of h. -/
def rTlC (nm : List (List Nat)) (o : Nat → Nat → Bool) (h t : Nat) : Bool := (nm.getD t []).contains h && o h t
def rTls (nm : List (List Nat)) (o : Nat → Nat → Bool) (h : Nat) : List Nat := (List.range nm.length).filter (rTlC nm o h)
def rHb (nm : List (List Nat)) (o : Nat → Nat → Bool) (h : Nat) : Bool := !(rTls nm o h).isEmpty
/-- p is in h's body; to p: what is reached from p around h. -/
def rInC (tls : List Nat) (o : Nat → Nat → Bool) (to : List Bool) (h p : Nat) : Bool := ((p == h) || tls.any (fun t => to.getD t false)) && o 0 p
/-- Which body is the least that holds body i. -/
def rInsP (bs : Nat → List Nat) (i k : Nat) (j : Option Nat) : Bool := k != i && ((bs i).all (fun x => (bs k).contains x) && (match j with | none => true | some j => decide ((bs k).length < (bs j).length)))
def rIns (bs : Nat → List Nat) (i : Nat) : List Nat → Option Nat → Option Nat
  | [], j => j
  | k :: ks, j => rIns bs i ks (if rInsP bs i k j then some k else j)
def rLps (n : Nat) (hs : List Nat) (B : Nat → Nat → Bool) : List GL :=
  (List.range hs.length).map (fun t => (⟨hs.getD t 0, (List.range n).filter (B (hs.getD t 0)), rIns (fun k => (List.range n).filter (B (hs.getD k 0))) t (List.range hs.length) none⟩ : GL))

theorem rIns_none (bs : Nat → List Nat) (i : Nat) : ∀ (ks : List Nat), (∀ k ∈ ks, k ≠ i → (bs i).all (fun x => (bs k).contains x) = false) → rIns bs i ks none = none
  | [], _ => rfl
  | k :: ks, h => by
    have e : rInsP bs i k none = false := by
      unfold rInsP
      by_cases hk : k = i
      · simp [hk]
      · rw [h k (by simp) hk]; simp
    rw [rIns, e, if_neg (by simp)]
    exact rIns_none bs i ks (fun k hk => h k (by simp [hk]))
theorem rIns_best (bs : Nat → List Nat) (i a : Nat) (ha : a ≠ i) (hal : (bs i).all (fun x => (bs a).contains x) = true) (N : Nat) (hlt : ∀ k, k < N → k ≠ i → k ≠ a → (bs i).all (fun x => (bs k).contains x) = true → (bs a).length < (bs k).length) :
    ∀ (ks : List Nat) (j : Option Nat), (∀ k ∈ ks, k < N) → (∀ c, j = some c → c < N ∧ c ≠ i ∧ (bs i).all (fun x => (bs c).contains x) = true) → (a ∈ ks ∨ j = some a) → rIns bs i ks j = some a
  | [], j, _, _, h => by
    rcases h with h | h
    · cases h
    · exact h
  | k :: ks, j, hN, hj, h => by
    have hkN := hN k (by simp)
    rw [rIns]
    refine rIns_best bs i a ha hal N hlt ks _ (fun k hk => hN k (by simp [hk])) (fun c hc => ?_) ?_
    · by_cases e : rInsP bs i k j = true
      · rw [if_pos e] at hc
        injection hc with hc
        subst hc
        unfold rInsP at e
        simp only [Bool.and_eq_true, bne_iff_ne] at e
        exact ⟨hkN, e.1, e.2.1⟩
      · rw [if_neg e] at hc
        exact hj c hc
    · by_cases hk : k = a
      · subst hk
        right
        cases j with
        | none =>
          rw [if_pos]
          unfold rInsP
          rw [hal]
          simp [ha]
        | some c =>
          obtain ⟨c0, c1, c2⟩ := hj c rfl
          by_cases hc : c = k
          · subst hc
            split <;> rfl
          · have := hlt c c0 c1 hc c2
            rw [if_pos]
            unfold rInsP
            rw [hal]
            simp [ha, this]
      · rcases h with h | h
        · rcases List.mem_cons.1 h with h | h
          · exact absurd h.symm hk
          · exact Or.inl h
        · right
          subst h
          rw [if_neg]
          · intro hc
            unfold rInsP at hc
            simp only [Bool.and_eq_true, bne_iff_ne, decide_eq_true_iff] at hc
            have := hlt k hkN hc.1 hk hc.2.1
            omega
theorem filter_lt (p q : Nat → Bool) : ∀ (l : List Nat), (∀ x ∈ l, p x = true → q x = true) → (∃ x ∈ l, q x = true ∧ p x = false) → (l.filter p).length < (l.filter q).length
  | [], _, h => by obtain ⟨x, h, _⟩ := h; cases h
  | y :: l, h, he => by
    have hle : ∀ (l : List Nat), (∀ x ∈ l, p x = true → q x = true) → (l.filter p).length ≤ (l.filter q).length := by
      intro l
      induction l with
      | nil => intro _; simp
      | cons y l ih =>
        intro h
        have i1 := ih (fun x hx => h x (by simp [hx]))
        have h1 := h y (by simp)
        rw [List.filter_cons, List.filter_cons]
        cases hp : p y <;> cases hq : q y <;> simp_all <;> omega
    have h1 := h y (by simp)
    have h2 := hle l (fun x hx => h x (by simp [hx]))
    obtain ⟨x, x1, x2, x3⟩ := he
    rw [List.filter_cons, List.filter_cons]
    rcases List.mem_cons.1 x1 with e | e
    · subst e
      rw [x2, x3]
      simp
      omega
    · have i1 := filter_lt p q l (fun x hx => h x (by simp [hx])) ⟨x, e, x2, x3⟩
      cases hp : p y <;> cases hq : q y <;> simp_all <;> omega

section
variable {g : List (List Int)} {M : List Nat} {wb : List (Option Nat)}
theorem dom_zero (z : Nat) : Dom g 0 z := by
  intro h
  induction h with
  | zero h => exact h rfl
  | step _ _ _ ih => exact ih
theorem Way.cons {ls : List (List Nat)} {bar : Int} {a b c : Nat} {l : List Nat} (h1 : ls[a]? = some l) (h2 : b ∈ l) (h3 : (b : Int) ≠ bar) (h : Way ls bar b c) : Way ls bar a c := by
  induction h with
  | nil => exact .step .nil h1 h2 h3
  | step _ e1 e2 e3 ih => exact .step ih e1 e2 e3
theorem bl_way {h p : Nat} (b : BL g M h p) : ∃ t, Tl g M h t ∧ Way (gNorm g) (h : Int) p t := by
  induction b with
  | tail t n => exact ⟨_, t, .nil⟩
  | back b e m n ih =>
    obtain ⟨t, t1, t2⟩ := ih
    obtain ⟨l, l1, l2⟩ := (edg_norm g _ _).1 e
    exact ⟨t, t1, t2.cons l1 l2 (by have := b.ne; omega)⟩
theorem way_bl (D : DfsF g M wb) {h p t : Nat} (hp : p ∈ M) (hne : p ≠ h) (w : Way (gNorm g) (h : Int) p t) : (t ∈ M ∧ t ≠ h) ∧ (BL g M h t → BL g M h p) := by
  induction w with
  | nil => exact ⟨⟨hp, hne⟩, id⟩
  | @step b c l w e1 e2 e3 ih =>
    have he : EdgG g b c := (edg_norm g _ _).2 ⟨_, e1, e2⟩
    obtain ⟨i, hi⟩ := List.getElem?_of_mem ih.1.1
    obtain ⟨j, hj, _⟩ := D.ed i b c hi he
    exact ⟨⟨List.mem_of_getElem? hj, by omega⟩, fun k => ih.2 (.back k he ih.1.1 ih.1.2)⟩

theorem rTlC_iff (o : Nat → Nat → Bool) (ho : OvOk g M o) {h t : Nat} (hh : h < g.length) (ht : t < g.length) : rTlC (gNorm g) o h t = true ↔ (Tl g M h t ∧ h ∈ M) := by
  unfold rTlC
  rw [Bool.and_eq_true, ho h t hh ht, List.contains_iff_mem, List.getD_eq_getElem?_getD]
  have e := edg_norm g t h
  constructor
  · rintro ⟨h1, h2, h3, h4⟩
    refine ⟨⟨e.2 ?_, h3, h4⟩, h2⟩
    cases hl : (gNorm g)[t]? with
    | none => rw [hl] at h1; cases h1
    | some l => rw [hl] at h1; exact ⟨l, rfl, h1⟩
  · rintro ⟨⟨h1, h2, h3⟩, h4⟩
    obtain ⟨l, l1, l2⟩ := e.1 h1
    exact ⟨by rw [l1]; exact l2, h4, h2, h3⟩
theorem rTls_mem (D : DfsF g M wb) (o : Nat → Nat → Bool) (ho : OvOk g M o) {h : Nat} (hh : h < g.length) (t : Nat) : t ∈ rTls (gNorm g) o h ↔ (Tl g M h t ∧ h ∈ M) := by
  unfold rTls
  rw [List.mem_filter, List.mem_range, gNorm_len]
  constructor
  · rintro ⟨h1, h2⟩; exact (rTlC_iff o ho hh h1).1 h2
  · intro h1
    have := D.lt t h1.1.2.1
    exact ⟨this, (rTlC_iff o ho hh this).2 h1⟩
theorem rHb_iff (D : DfsF g M wb) (o : Nat → Nat → Bool) (ho : OvOk g M o) (h : Nat) (hh : h < g.length) : rHb (gNorm g) o h = true ↔ Hd' g M h := by
  unfold rHb Hd'
  have hm := rTls_mem D o ho hh
  cases hl : rTls (gNorm g) o h with
  | nil =>
    rw [hl] at hm
    simp only [List.isEmpty_nil, Bool.not_true]
    constructor
    · intro c; cases c
    · rintro ⟨h1, t, h2⟩
      have := (hm t).2 ⟨h2, h1⟩
      cases this
  | cons t l =>
    rw [hl] at hm
    have := (hm t).1 (by simp)
    simp only [List.isEmpty_cons, Bool.not_false, true_iff]
    exact ⟨this.2, t, this.1⟩
theorem rInC_iff (D : DfsF g M wb) (o : Nat → Nat → Bool) (ho : OvOk g M o) (h p : Nat) (hd : Hd' g M h) (hp : p < g.length) (K : Nat) (to : List Bool) (hto : rFrom (gNorm g) (p : Int) (h : Int) K = some to) :
    rInC (rTls (gNorm g) o h) o to h p = true ↔ ((h = p ∧ Hd' g M p) ∨ BL g M h p) := by
  have hh := D.lt h hd.1
  have hm := rTls_mem D o ho hh
  have hon : ∀ q : Nat, to.getD q false = true ↔ (p ≠ h ∧ Way (gNorm g) (h : Int) p q) := fun q => by
    have := rFrom_on (gNorm g) (p : Int) (h : Int) K to hto q
    rw [gNorm_len] at this
    rw [List.getD_eq_getElem?_getD]
    have e : ((to[q]?).getD false = true) ↔ to[q]? = some true := by
      cases to[q]? with
      | none => simp
      | some v => cases v <;> simp
    rw [e, this]
    constructor
    · rintro ⟨_, _, h1, h2⟩; exact ⟨by omega, by simpa using h2⟩
    · rintro ⟨h1, h2⟩; exact ⟨by omega, by omega, by omega, by simpa using h2⟩
  have h0 : 0 < g.length := by omega
  unfold rInC
  rw [Bool.and_eq_true, ho 0 p h0 hp, Bool.or_eq_true, List.any_eq_true, beq_iff_eq]
  constructor
  · rintro ⟨h1, h2, h3, h4⟩
    rcases h1 with e | ⟨t, t1, t2⟩
    · subst e; exact Or.inl ⟨rfl, hd⟩
    · obtain ⟨w1, w2⟩ := (hon t).1 t2
      have := way_bl D h3 w1 w2
      exact Or.inr (this.2 (.tail ((hm t).1 t1).1 this.1.2))
  · intro h1
    have hpm : p ∈ M := by
      rcases h1 with ⟨_, e⟩ | b
      · exact e.1
      · exact b.mem
    refine ⟨?_, List.mem_of_getElem? D.zero, hpm, dom_zero p⟩
    rcases h1 with ⟨e, _⟩ | b
    · exact Or.inl e.symm
    · obtain ⟨t, t1, t2⟩ := bl_way b
      exact Or.inr ⟨t, (hm t).2 ⟨t1, hd.1⟩, (hon t).2 ⟨b.ne, t2⟩⟩
end
/-- Loops is the document's: heads, bodies, and where each stands. -/
theorem gLoops_doc (g : List (List Int)) (K : Nat) (F : GW) (hn : g.length ≠ 0) (hF : gWalk g K = some F) (hK : 2 * g.length + 1 ≤ K) (hK2 : g.length + 1 < K) (hb : Nat → Bool) (hhb : ∀ h, h < g.length → (hb h = true ↔ Hd' g F.met h)) (B : Nat → Nat → Bool) (hB : ∀ h p, Hd' g F.met h → p < g.length → (B h p = true ↔ ((h = p ∧ Hd' g F.met p) ∨ BL g F.met h p))) :
    gLoops g K = some (rLps g.length ((List.range g.length).filter hb) B) := by
  obtain ⟨ls, a1, a2, a3⟩ := gLoops_ok g K F hn hF hK hK2 hb hhb B hB
  obtain ⟨D, _, _⟩ := gWalk_dfs g K F hn hF
  rw [a1]
  congr 1
  have hsm : ∀ h, h ∈ (List.range g.length).filter hb ↔ Hd' g F.met h := fun h => by
    rw [List.mem_filter, List.mem_range]
    constructor
    · rintro ⟨h1, h2⟩; exact (hhb h h1).1 h2
    · intro h1; have := D.lt h h1.1; exact ⟨this, (hhb h this).2 h1⟩
  have hnd : ((List.range g.length).filter hb).Nodup := List.nodup_range.sublist List.filter_sublist
  generalize (List.range g.length).filter hb = hs at a2 a3 hsm hnd ⊢
  apply List.ext_getElem?
  intro t
  by_cases ht : t < hs.length
  · have e := List.getElem?_eq_getElem ht
    generalize hs[t] = h at e
    obtain ⟨x, x1, x2, x3, x4⟩ := a3 t h e
    unfold rLps
    rw [x1, List.getElem?_map, List.getElem?_range ht, Option.map_some]
    have hgd : ∀ (k c : Nat), hs[k]? = some c → hs.getD k 0 = c := fun k c h => by rw [List.getD_eq_getElem?_getD, h]; rfl
    have hd := (hsm h).1 (List.mem_of_getElem? e)
    have hin : ∀ c p, Hd' g F.met c → (p ∈ (List.range g.length).filter (B c) ↔ ((c = p ∧ Hd' g F.met p) ∨ BL g F.met c p)) := fun c p hc => by
      rw [List.mem_filter, List.mem_range]
      constructor
      · rintro ⟨h1, h2⟩; exact (hB c p hc h1).1 h2
      · intro h1
        have : p < g.length := by
          rcases h1 with ⟨_, h1⟩ | h1
          · exact D.lt p h1.1
          · exact D.lt p h1.mem
        exact ⟨this, (hB c p hc this).2 h1⟩
    -- one body lies in another
    have hall : ∀ (k c : Nat), hs[k]? = some c → k ≠ t → ((((List.range g.length).filter (B (hs.getD t 0))).all (fun x => ((List.range g.length).filter (B (hs.getD k 0))).contains x) = true) ↔ BL g F.met c h) := fun k c hk hkt => by
      rw [hgd k c hk, hgd t h e, List.all_eq_true]
      have hc := (hsm c).1 (List.mem_of_getElem? hk)
      have hch : c ≠ h := fun e2 => by
        subst e2
        exact hkt ((List.getElem?_inj (List.getElem?_eq_some_iff.1 hk).1 hnd).1 (hk.trans e.symm))
      constructor
      · intro h1
        have := h1 h ((hin h h hd).2 (Or.inl ⟨rfl, hd⟩))
        rw [List.contains_iff_mem, hin c h hc] at this
        rcases this with e2 | b
        · exact absurd e2.1 hch
        · exact b
      · intro b p hp
        rw [List.contains_iff_mem, hin c p hc]
        rcases (hin h p hd).1 hp with e2 | b2
        · exact Or.inr (by rw [← e2.1]; exact b)
        · exact Or.inr (b.trans D b2)
    have hhd : ∀ k, BL g F.met k h → Hd' g F.met k := fun k b => ⟨b.hmem D, b.tl⟩
    have hins : x.ins = rIns (fun k => (List.range g.length).filter (B (hs.getD k 0))) t (List.range hs.length) none := by
      rcases x4 with ⟨y1, y2⟩ | ⟨a, t2, y1, y2, y3, y4⟩
      · rw [y1]
        refine (rIns_none _ t _ (fun k hk hkt => ?_)).symm
        have hkl := List.mem_range.1 hk
        have ek := List.getElem?_eq_getElem hkl
        cases hh : (((List.range g.length).filter (B (hs.getD t 0))).all (fun x => ((List.range g.length).filter (B (hs.getD k 0))).contains x)) with
        | false => rfl
        | true => exact absurd ((hall k _ ek hkt).1 hh) (y2 _)
      · rw [y1]
        have htt : t2 ≠ t := fun c => by
          subst c
          rw [y2] at e
          injection e with e
          exact y3.ne e.symm
        have ht2 := (List.getElem?_eq_some_iff.1 y2).1
        refine (rIns_best _ t t2 htt ((hall t2 a y2 htt).2 y3) hs.length (fun k hkl hkt hk2 hk => ?_) _ none (fun k hk => List.mem_range.1 hk) (fun c hc => by cases hc) (Or.inl (List.mem_range.2 ht2))).symm
        have ek := List.getElem?_eq_getElem hkl
        generalize hs[k] = c at ek
        have b := (hall k c ek hkt).1 hk
        have hca : c ≠ a := fun e2 => by
          subst e2
          exact hk2 ((List.getElem?_inj hkl hnd).1 (ek.trans y2.symm))
        have b2 : BL g F.met c a := (y4 c b).resolve_left hca
        show ((List.range g.length).filter (B (hs.getD t2 0))).length < ((List.range g.length).filter (B (hs.getD k 0))).length
        rw [hgd k c ek, hgd t2 a y2]
        have hc := hhd c b
        have ha := hhd a y3
        refine filter_lt _ _ _ (fun p hp h1 => ?_) ⟨c, List.mem_range.2 (D.lt c hc.1), (hB c c hc (D.lt c hc.1)).2 (Or.inl ⟨rfl, hc⟩), ?_⟩
        · have hp := List.mem_range.1 hp
          rcases (hB a p ha hp).1 h1 with e2 | b3
          · exact (hB c p hc hp).2 (Or.inr (by rw [← e2.1]; exact b2))
          · exact (hB c p hc hp).2 (Or.inr (b2.trans D b3))
        · cases hh : B a c with
          | false => rfl
          | true =>
            rcases (hB a c ha (D.lt c hc.1)).1 hh with e2 | b3
            · exact absurd e2.1.symm hca
            · exact (b2.anti D b3.dom).elim
    have : x = (⟨hs.getD t 0, (List.range g.length).filter (B (hs.getD t 0)), rIns (fun k => (List.range g.length).filter (B (hs.getD k 0))) t (List.range hs.length) none⟩ : GL) := by
      rw [← hins, hgd t h e, ← x3, ← x2]
    rw [this]
  · rw [List.getElem?_eq_none (by omega), List.getElem?_eq_none (by unfold rLps; simp; omega)]
end Go.Proofs.Ytpfjafjpijmckaa
