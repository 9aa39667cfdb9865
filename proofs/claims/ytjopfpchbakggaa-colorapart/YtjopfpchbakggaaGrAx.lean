/- A region that draws its order, whose operations call what makes memory: what holds behind each set of operations that have come up. -/
import Derived.Test.YtjopfpchbakggaaGrAl
set_option linter.unusedSimpArgs false
set_option linter.unusedVariables false
set_option maxRecDepth 10000
namespace Go.Proofs.Ytjopfpchbakggaa
open Go.RowKit

/-- These slots are set, one behind the other. -/
def setsL (A : Array Value) (u : Nat → Value) : Nat → List Nat → Array Value
  | _, [] => A
  | k, d :: r => setsL (A.setIfInBounds d (u k)) u (k + 1) r
theorem setsL_size (u : Nat → Value) : ∀ (ds : List Nat) (k : Nat) (A : Array Value), (setsL A u k ds).size = A.size
  | [], k, A => rfl
  | d :: r, k, A => by rw [setsL, setsL_size u r, Array.size_setIfInBounds]
theorem setsL_not (u : Nat → Value) (j : Nat) : ∀ (ds : List Nat) (k : Nat) (A : Array Value), j ∉ ds → (setsL A u k ds)[j]? = A[j]?
  | [], k, A, h => rfl
  | d :: r, k, A, h => by
    rw [setsL, setsL_not u j r _ _ (fun e => h (List.mem_cons_of_mem _ e)), T_other (fun e => h (by rw [e]; exact List.mem_cons_self ..))]
theorem setsL_at (u : Nat → Value) (j : Nat) : ∀ (ds : List Nat) (k i : Nat) (A : Array Value), ds.Nodup → ds[i]? = some j → j < A.size → (setsL A u k ds)[j]? = some (u (k + i))
  | [], k, i, A, hn, h, hj => by simp at h
  | d :: r, k, 0, A, hn, h, hj => by
    simp at h
    subst h
    rw [setsL, setsL_not u d r _ _ (List.nodup_cons.1 hn).1, T_self hj, Nat.add_zero]
  | d :: r, k, i + 1, A, hn, h, hj => by
    rw [setsL, setsL_at u j r (k + 1) i _ (List.nodup_cons.1 hn).2 (by simpa using h) (by rw [Array.size_setIfInBounds]; exact hj)]
    congr 2
    omega

/-- Such a region: its slots, how many in the frame, what each operation's slot holds, which operations come ahead of each, and the one behind which nothing is known of those ahead of it. -/
structure XSp where
  ds : List Nat
  M : Nat
  phi : Nat → Value → World → Prop
  dep : Nat → List Nat
  last : Nat
structure XGood (X : XSp) : Prop where
  nd : X.ds.Nodup
  lt : ∀ d ∈ X.ds, d < X.M
  mono : ∀ i v w w', Ext w w' → X.phi i v w → X.phi i v w'
structure XInv (X : XSp) (A : Array Value) (W : World) (l : Array Bool) (T : Array Value) (w : World) : Prop where
  sz : l.size = X.ds.length
  len : T.size = X.M
  keep : ∀ j, j ∉ X.ds → T[j]? = A[j]?
  ext : Ext W w
  dn : ∀ i, ltA l i → ∀ j ∈ X.dep i, ltA l j
  ph : ∀ i d, X.ds[i]? = some d → ltA l i → ∃ v, T[d]? = some v ∧ ((i < X.last ∧ ltA l X.last) ∨ X.phi i v w)
section
variable {X : XSp} {A : Array Value} {W : World} {l : Array Bool} {T : Array Value} {w w' : World}
theorem XInv.jump (h : XInv X A W l T w) (G : XGood X) (i d : Nat) (hd : X.ds[i]? = some d) (hdep : ∀ j ∈ X.dep i, ltA l j) (v : Value) (he : Ext W w') (hv : X.phi i v w')
    (ho : ∀ k u, ltA l k → ((k < X.last ∧ ltA l X.last) ∨ X.phi k u w) → ((k < X.last ∧ ltA (l.setIfInBounds i true) X.last) ∨ X.phi k u w')) : XInv X A W (l.setIfInBounds i true) (T.setIfInBounds d v) w' := by
  have hi : i < X.ds.length := (List.getElem?_eq_some_iff.1 hd).1
  have hiz : i < l.size := by rw [h.sz]; exact hi
  have hdM : d < X.M := G.lt d (List.mem_of_getElem? hd)
  have up : ∀ j, ltA l j → ltA (l.setIfInBounds i true) j := fun j h => (ltA_set hiz).2 (Or.inr h)
  refine ⟨by rw [Array.size_setIfInBounds]; exact h.sz, by rw [Array.size_setIfInBounds]; exact h.len, fun j hj => by rw [T_other (fun e => hj (by rw [← e]; exact List.mem_of_getElem? hd))]; exact h.keep j hj, he, fun k hk j hj => ?_, fun k d2 hd2 hk => ?_⟩
  · rcases (ltA_set hiz).1 hk with e | e
    · subst e; exact up j (hdep j hj)
    · exact up j (h.dn k e j hj)
  · by_cases e : k = i
    · subst e
      rw [hd] at hd2
      injection hd2 with hd2
      subst hd2
      exact ⟨v, T_self (by rw [h.len]; exact hdM), Or.inr hv⟩
    · have hk' := ((ltA_set hiz).1 hk).resolve_left e
      obtain ⟨u, hu, hp⟩ := h.ph k d2 hd2 hk'
      have hne : d ≠ d2 := fun e2 => e (by
        subst e2
        have h1 := (List.getElem?_eq_some_iff.1 hd2)
        have h2 := (List.getElem?_eq_some_iff.1 hd)
        exact (List.getElem_inj G.nd).1 (h1.2.trans h2.2.symm))
      exact ⟨u, by rw [T_other hne]; exact hu, ho k u hk' hp⟩
theorem XInv.step (h : XInv X A W l T w) (G : XGood X) (i d : Nat) (hd : X.ds[i]? = some d) (hdep : ∀ j ∈ X.dep i, ltA l j) (v : Value) (he : Ext w w') (hv : X.phi i v w') : XInv X A W (l.setIfInBounds i true) (T.setIfInBounds d v) w' :=
  h.jump G i d hd hdep v (h.ext.trans he) hv (fun k u _ hp => hp.imp (fun a => ⟨a.1, (ltA_set (by rw [h.sz]; exact (List.getElem?_eq_some_iff.1 hd).1)).2 (Or.inr a.2)⟩) (G.mono k u w w' he))
/-- What an operation that has come up left, while the last one has not. -/
theorem XInv.val (h : XInv X A W l T w) (i d : Nat) (hd : X.ds[i]? = some d) (hl : ltA l i) (hn : ¬ (i < X.last ∧ ltA l X.last)) : ∃ v, T[d]? = some v ∧ X.phi i v w := by
  obtain ⟨v, h1, h2⟩ := h.ph i d hd hl
  exact ⟨v, h1, h2.resolve_left hn⟩
theorem XInv.nolast (h : XInv X A W l T w) (e : X.ds.length ≤ X.last) : ¬ ltA l X.last := fun c => by
  unfold ltA at c
  rw [Array.getElem?_eq_none (by rw [h.sz]; exact e)] at c
  cases c
theorem XInv.start (hA : A.size = X.M) (w : World) (he : Ext W w) : XInv X A W (Array.replicate X.ds.length false) A w := by
  have no : ∀ i, ¬ ltA (Array.replicate X.ds.length false) i := fun i h => by
    unfold ltA at h
    rw [Array.getElem?_replicate] at h
    split at h <;> cases h
  exact ⟨by simp, hA, fun _ _ => rfl, he, fun i h => absurd h (no i), fun i _ _ h => absurd h (no i)⟩
end
def XPost (X : XSp) (A : Array Value) (W : World) : Exit → Act → World → Prop
  | .normal, a, w => a.defers = [] ∧ ∃ l, XInv X A W l a.tmps w ∧ ∀ i, i < X.ds.length → ltA l i
  | _, _, _ => False
theorem x_abs {P : Program} {c : Code} {Q : Exit → Act → World → Prop} {A : Array Value} {W : World} (X : XSp) (G : XGood X) (hs : A.size = X.M) (h : ∀ B, B = A → Code.wp P c (XPost X B W) ⟨B, []⟩ W)
    (hq : ∀ (u : Nat → Value) (w' : World), Ext W w' → (∀ i, i < X.ds.length → i ≥ X.last ∨ X.ds.length ≤ X.last → X.phi i (u i) w') → Q .normal ⟨setsL A u 0 X.ds, []⟩ w') : Code.wp P c Q ⟨A, []⟩ W := by
  refine Code.wp_mono ?_ (h A rfl)
  intro e a w' hp
  cases e with
  | normal =>
    obtain ⟨hd, l, hI, hall⟩ := hp
    obtain ⟨T, d⟩ := a
    obtain rfl : d = [] := hd
    have hT : T.size = X.M := hI.len
    have e : T = setsL A (fun i => T[X.ds.getD i 0]?.getD undef) 0 X.ds := by
      apply Array.ext_getElem?
      intro j
      by_cases hj : j ∈ X.ds
      · obtain ⟨i, hi⟩ := List.getElem?_of_mem hj
        have hjM := G.lt j hj
        rw [setsL_at _ j X.ds 0 i A G.nd hi (by rw [hs]; exact hjM), Nat.zero_add, List.getD_eq_getElem?_getD, hi]
        show _ = some (T[j]?.getD undef)
        rw [Array.getElem?_eq_getElem (by rw [hT]; exact hjM)]
        rfl
      · rw [setsL_not _ j X.ds 0 A hj]
        exact hI.keep j hj
    have := hq (fun i => T[X.ds.getD i 0]?.getD undef) w' hI.ext (fun i hi hn => by
      have hdi : X.ds[i]? = some (X.ds.getD i 0) := by rw [List.getD_eq_getElem?_getD, List.getElem?_eq_getElem hi]; rfl
      obtain ⟨v, h1, h2⟩ := hI.ph i _ hdi (hall i hi)
      show X.phi i (T[X.ds.getD i 0]?.getD undef) w'
      rw [h1]
      refine h2.resolve_left (fun c => ?_)
      rcases hn with hn | hn
      · omega
      · have : X.last < l.size := by
          rcases Nat.lt_or_ge X.last l.size with q | q
          · exact q
          · have := c.2
            unfold ltA at this
            rw [Array.getElem?_eq_none q] at this
            cases this
        rw [hI.sz] at this
        omega)
    rw [← e] at this
    exact this
  | _ => exact hp.elim
end Go.Proofs.Ytjopfpchbakggaa
