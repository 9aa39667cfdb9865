/- Plain: entries by ways; immediate dominators. -/
import Derived.Test.YtmhcecofknemkaaGrDb
import Derived.Test.YtmhcecofknemkaaGrRn
import Derived.Test.YtmhcecofknemkaaGrOr
set_option linter.unusedSimpArgs false
set_option linter.unusedVariables false
namespace Go.Proofs.Ytmhcecofknemkaa
open Go.RowKit

theorem edg_norm (g : List (List Int)) (a b : Nat) : EdgG g a b ↔ ∃ l, (gNorm g)[a]? = some l ∧ b ∈ l := by
  constructor
  · rintro ⟨L, x, hL, hx, hp, rfl⟩
    have hx0 : ((x.toNat : Nat) : Int) = x := by unfold gPt at hp; simp at hp; omega
    exact ⟨_, gNorm_get g a L hL, (gNormL_mem _ _ _ _).2 (Or.inr ⟨by rw [hx0]; exact hx, by rw [hx0]; exact hp⟩)⟩
  · rintro ⟨l, hl, hb⟩
    obtain ⟨L, hL, rfl⟩ := gNorm_get' g a l hl
    rcases (gNormL_mem _ _ _ _).1 hb with e | ⟨e1, e2⟩
    · cases e
    · exact ⟨L, (b : Int), hL, e1, e2, by simp⟩
theorem rPredL_mem (p n : Nat) : ∀ (l : List Nat) (ps : List (List Nat)) (q y : Nat), ps.length = n → (∀ x ∈ l, x < n) → (y ∈ (rPredL p l ps).getD q [] ↔ y ∈ ps.getD q [] ∨ (y = p ∧ q ∈ l))
  | [], ps, q, y, _, _ => by simp [rPredL]
  | x :: r, ps, q, y, hl, hx => by
    rw [rPredL, rPredL_mem p n r _ q y (by simp [hl]) (fun z hz => hx z (List.mem_cons_of_mem _ hz)), getD_set _ _ _ _ (by rw [hl]; exact hx x (List.mem_cons_self ..))]
    by_cases e : x = q
    · subst e
      rw [if_pos rfl]
      simp only [List.mem_append, List.mem_cons, List.not_mem_nil, or_false, true_or, and_true]
      constructor
      · rintro ((h | h) | h)
        · exact Or.inl h
        · exact Or.inr h
        · exact Or.inr h.1
      · rintro (h | h)
        · exact Or.inl (Or.inl h)
        · exact Or.inl (Or.inr h)
    · rw [if_neg e]
      simp only [List.mem_cons]
      constructor
      · rintro (h | h)
        · exact Or.inl h
        · exact Or.inr ⟨h.1, Or.inr h.2⟩
      · rintro (h | ⟨h, h2 | h2⟩)
        · exact Or.inl h
        · exact absurd h2.symm e
        · exact Or.inr ⟨h, h2⟩
theorem rPredF_mem (n : Nat) : ∀ (ls : List (List Nat)) (p : Nat) (ps : List (List Nat)) (q y : Nat), ps.length = n → (∀ l ∈ ls, ∀ x ∈ l, x < n) → (y ∈ (rPredF ls p ps).getD q [] ↔ y ∈ ps.getD q [] ∨ ∃ i l, ls[i]? = some l ∧ y = p + i ∧ q ∈ l)
  | [], p, ps, q, y, _, _ => by simp [rPredF]
  | l :: r, p, ps, q, y, hl, hx => by
    have hl1 : (rPredL p l ps).length = n := by
      have : ∀ (l : List Nat) (ps : List (List Nat)), (rPredL p l ps).length = ps.length := by
        intro l
        induction l with
        | nil => intro ps; rfl
        | cons z r ih => intro ps; rw [rPredL, ih]; simp
      rw [this, hl]
    rw [rPredF, rPredF_mem n r (p + 1) _ q y hl1 (fun l2 h2 => hx l2 (List.mem_cons_of_mem _ h2)), rPredL_mem p n l ps q y hl (hx l (List.mem_cons_self ..))]
    constructor
    · rintro ((h | ⟨h, h2⟩) | ⟨i, l2, h1, h2, h3⟩)
      · exact Or.inl h
      · exact Or.inr ⟨0, l, rfl, by omega, h2⟩
      · exact Or.inr ⟨i + 1, l2, by simpa using h1, by omega, h3⟩
    · rintro (h | ⟨i, l2, h1, h2, h3⟩)
      · exact Or.inl (Or.inl h)
      · cases i with
        | zero =>
          simp at h1
          subst h1
          exact Or.inl (Or.inr ⟨by omega, h3⟩)
        | succ i => exact Or.inr ⟨i, l2, by simpa using h1, by omega, h3⟩
/-- What leads to a point. -/
theorem gPreds_mem (g : List (List Int)) (x p : Nat) (l : List Nat) (h : (gPreds g)[x]? = some l) : p ∈ l ↔ EdgG g p x := by
  rw [edg_norm]
  have hp := gNorm_pts g
  have hn := gNorm_len g
  have e : l = (gPreds g).getD x [] := by rw [List.getD_eq_getElem?_getD, h]; rfl
  rw [e, gPreds_r, rPreds, rPredF_mem (gNorm g).length (gNorm g) 0 _ x p (by simp) hp]
  constructor
  · rintro (h | ⟨i, l2, h1, h2, h3⟩)
    · rw [List.getD_eq_getElem?_getD, List.getElem?_replicate] at h
      split at h <;> cases h
    · exact ⟨l2, by rw [show p = i by omega]; exact h1, h3⟩
  · rintro ⟨l2, h1, h2⟩
    exact Or.inr ⟨p, l2, h1, by omega, h2⟩
theorem gPreds_lt (g : List (List Int)) : ∀ l ∈ gPreds g, ∀ p ∈ l, p < g.length := by
  intro l hl p hp
  obtain ⟨x, hx⟩ := List.getElem?_of_mem hl
  obtain ⟨L, _, hL, _⟩ := (gPreds_mem g x p l hx).1 hp
  exact (List.getElem?_eq_some_iff.1 hL).1

/-- A way of one edge or more, with such points between. -/
inductive Via (E : Nat → Nat → Prop) (Q : Nat → Prop) (a : Nat) : Nat → Prop
  | one {b : Nat} : E a b → Via E Q a b
  | snoc {x b : Nat} : Via E Q a x → Q x → E x b → Via E Q a b
theorem Via.mono {E : Nat → Nat → Prop} {Q Q' : Nat → Prop} (hq : ∀ x, Q x → Q' x) {a b : Nat} (h : Via E Q a b) : Via E Q' a b := by
  induction h with
  | one e => exact .one e
  | snoc _ q e ih => exact .snoc ih (hq _ q) e
/-- A number greater than another one. -/
def Gt (M : List Nat) (n z : Nat) : Prop := ∃ i : Nat, M[i]? = some z ∧ n < i

section
variable {g : List (List Int)} {M : List Nat} {wb : List (Option Nat)} {ent : List Nat}
/-- Entries, by edges. -/
structure EntF (g : List (List Int)) (M : List Nat) (wb : List (Option Nat)) (ent : List Nat) : Prop where
  le : ∀ (j e : Nat), 0 < j → j < M.length → ent[j]? = some e → e < j
  at' : ∀ j : Nat, 0 < j → j < M.length → ∃ e, ent[j]? = some e
  bd : ∀ (j x e m p : Nat), 0 < j → M[j]? = some x → ent[j]? = some e → M[m]? = some p → EdgG g p x → LowB M wb ent j m e
  ex : ∀ (j x e : Nat), 0 < j → M[j]? = some x → ent[j]? = some e → ∃ m p, M[m]? = some p ∧ EdgG g p x ∧ LowE M wb ent j m e
theorem entF_of (D : DfsF g M wb) (h : ∀ j : Nat, 0 < j → j < M.length → EntOK M wb (gPreds g) ent j) : EntF g M wb ent := by
  have bd : ∀ (j x e m p : Nat), 0 < j → M[j]? = some x → ent[j]? = some e → M[m]? = some p → EdgG g p x → LowB M wb ent j m e := by
    intro j x e m p h0 hx he hm hE
    obtain ⟨e2, x2, l, f1, f2, f3, f4, f5, f6⟩ := h j h0 (List.getElem?_eq_some_iff.1 hx).1
    rw [hx] at f2
    injection f2 with f2
    subst f2
    rw [he] at f1
    injection f1 with f1
    subst f1
    exact f5 p ((gPreds_mem g x p l f3).2 hE) m hm
  have le : ∀ (j e : Nat), 0 < j → j < M.length → ent[j]? = some e → e < j := by
    intro j e h0 hj he
    obtain ⟨y, u, w1, w2, w3, w4, _⟩ := D.up (List.getElem?_eq_getElem hj) h0
    have := (bd j _ e u y h0 (List.getElem?_eq_getElem hj) he w2 w4).1 (by omega)
    omega
  refine ⟨le, fun j h0 hj => ?_, bd, fun j x e h0 hx he => ?_⟩
  · obtain ⟨e, _, _, f1, _⟩ := h j h0 hj
    exact ⟨e, f1⟩
  · obtain ⟨e2, x2, l, f1, f2, f3, f4, f5, f6⟩ := h j h0 (List.getElem?_eq_some_iff.1 hx).1
    rw [hx] at f2
    injection f2 with f2
    subst f2
    rw [he] at f1
    injection f1 with f1
    subst f1
    rcases f6 with e1 | ⟨p, hp, m, hm, e1⟩
    · have := le j e h0 (List.getElem?_eq_some_iff.1 hx).1 he; omega
    · exact ⟨m, p, hm, (gPreds_mem g x p l f3).1 hp, e1⟩
/-- Down the tree. -/
theorem Via.down (D : DfsF g M wb) {Q : Nat → Prop} {v a b : Nat} {i : Nat} (h : Via (EdgG g) Q v a) (hu : Up wb a b) (hi : M[i]? = some a) (hb : b ∈ M) (hQ : ∀ (k z : Nat), M[k]? = some z → i ≤ k → Q z) : Via (EdgG g) Q v b := by
  induction hu with
  | refl => exact h
  | @step x y k e ih =>
    obtain ⟨j, hj⟩ := List.getElem?_of_mem hb
    rcases D.par j x hj with f | ⟨y2, j2, f1, f2, f3, f4⟩
    · subst f
      rw [D.zero] at hj
      injection hj with hj
      subst hj
      rw [D.root] at e
      cases e
    · rw [e] at f1
      injection f1 with f1
      injection f1 with f1
      subst f1
      exact .snoc (ih (List.mem_of_getElem? f3)) (hQ j2 y f3 (D.le k hi f3)) f4
/-- An entry leads to its point over greater numbers. -/
theorem EntF.way (D : DfsF g M wb) (F : EntF g M wb ent) : ∀ (c j x e : Nat), M.length - j ≤ c → 0 < j → M[j]? = some x → ent[j]? = some e → ∃ v, M[e]? = some v ∧ Via (EdgG g) (Gt M j) v x
  | 0, j, x, e, hc, h0, hx, he => by have := (List.getElem?_eq_some_iff.1 hx).1; omega
  | c + 1, j, x, e, hc, h0, hx, he => by
    have hjN := (List.getElem?_eq_some_iff.1 hx).1
    obtain ⟨m, p, hm, hE, h⟩ := F.ex j x e h0 hx he
    rcases h with ⟨h1, h2⟩ | ⟨h1, y, f1, f2, f3⟩
    · subst h2
      exact ⟨p, hm, .one hE⟩
    · obtain ⟨a, b, g1, g2, g3⟩ := f1
      rw [hm] at g2
      injection g2 with g2
      subst g2
      obtain ⟨v, hv, hV⟩ := EntF.way D F c y a e (by omega) (by omega) g1 f3
      have hV2 : Via (EdgG g) (Gt M j) v a := hV.mono (fun z ⟨k, k1, k2⟩ => ⟨k, k1, by omega⟩)
      exact ⟨v, hv, .snoc (hV2.down D g3 g1 (List.mem_of_getElem? hm) (fun k z hk hyk => ⟨k, hk, by omega⟩)) ⟨m, hm, h1⟩ hE⟩
/-- An edge bounds the entry. -/
theorem EntF.edge (F : EntF g M wb ent) {j x e m p : Nat} (h0 : 0 < j) (hx : M[j]? = some x) (he : ent[j]? = some e) (hm : M[m]? = some p) (hE : EdgG g p x) : e ≤ m := by
  have hB := F.bd j x e m p h0 hx he hm hE
  have hjN := (List.getElem?_eq_some_iff.1 hx).1
  have hmN := (List.getElem?_eq_some_iff.1 hm).1
  by_cases h : m ≤ j
  · exact hB.1 h
  · obtain ⟨e2, he2⟩ := F.at' m (by omega) hmN
    have h1 := hB.2 (by omega) m e2 (UpN.refl hmN) (by omega) he2
    have h2 := F.le m e2 (by omega) hmN he2
    omega
/-- From z to x, z's number greater: what stands on the way up from z counts. -/
theorem EntF.over (F : EntF g M wb ent) {j x e m p y f : Nat} (h0 : 0 < j) (hx : M[j]? = some x) (he : ent[j]? = some e) (hm : M[m]? = some p) (hE : EdgG g p x) (hjm : j < m) (hy : UpN M wb y m) (hjy : j < y) (hf : ent[y]? = some f) : e ≤ f :=
  (F.bd j x e m p h0 hx he hm hE).2 hjm y f hy hjy hf

/-- A way from the first point that keeps off x. -/
inductive Av (g : List (List Int)) (x : Nat) : Nat → Prop
  | zero : 0 ≠ x → Av g x 0
  | step {a b : Nat} : Av g x a → EdgG g a b → b ≠ x → Av g x b
theorem Av.mem (D : DfsF g M wb) {x z : Nat} (h : Av g x z) : z ∈ M := by
  induction h with
  | zero => exact List.mem_of_getElem? D.zero
  | step _ e _ ih =>
    obtain ⟨i, hi⟩ := List.getElem?_of_mem ih
    obtain ⟨j, hj, _⟩ := D.ed i _ _ hi e
    exact List.mem_of_getElem? hj
theorem Av.ne {x z : Nat} (h : Av g x z) : z ≠ x := by
  cases h with
  | zero h => exact h
  | step _ _ h => exact h
/-- What is come to round x has on its way up a point whose entry is below x. -/
theorem Av.low (D : DfsF g M wb) (F : EntF g M wb ent) {x nx : Nat} (hx : M[nx]? = some x) {z : Nat} (h : Av g x z) : ∀ k : Nat, M[k]? = some z → nx < k → ∃ y f, UpN M wb y k ∧ nx < y ∧ ent[y]? = some f ∧ f < nx := by
  induction h with
  | zero h0 =>
    intro k hk hlt
    have := nd_inj D.nd hk D.zero
    omega
  | @step a b ha hE hne ih =>
    intro k hk hlt
    obtain ⟨m, hm⟩ := List.getElem?_of_mem (Av.mem D ha)
    have hmx : m ≠ nx := fun e => by
      subst e
      rw [hx] at hm
      injection hm with hm
      exact ha.ne hm.symm
    have hkN := (List.getElem?_eq_some_iff.1 hk).1
    obtain ⟨e, he⟩ := F.at' k (by omega) hkN
    by_cases h1 : m < nx
    · have := F.edge (by omega) hk he hm hE
      exact ⟨k, e, UpN.refl hkN, hlt, he, by omega⟩
    · obtain ⟨y, f, y1, y2, y3, y4⟩ := ih m hm (by omega)
      by_cases h2 : m < k
      · obtain ⟨j, hj, hu⟩ := D.ed m a b hm hE
        obtain rfl := nd_inj D.nd hj hk
        exact ⟨y, f, y1.trans ⟨a, b, hm, hk, hu h2⟩, y2, y3, y4⟩
      · by_cases h3 : m = k
        · subst h3; exact ⟨y, f, y1, y2, y3, y4⟩
        · by_cases h4 : k < y
          · have := F.over (by omega) hk he hm hE (by omega) y1 h4 y3
            exact ⟨k, e, UpN.refl hkN, hlt, he, by omega⟩
          · exact ⟨y, f, y1.mid D (by omega) (by omega), y2, y3, y4⟩
/-- The tree leads to a point over no greater numbers. -/
theorem Av.tree (D : DfsF g M wb) (x nx : Nat) (hx : M[nx]? = some x) : ∀ (k z : Nat), M[k]? = some z → (∀ i, UpN M wb i k → i ≠ nx) → Av g x z := by
  intro k
  induction k using Nat.strongRecOn with
  | _ k ih =>
    intro z hz hn
    have hkN := (List.getElem?_eq_some_iff.1 hz).1
    by_cases h0 : k = 0
    · subst h0
      have hz0 := hz
      rw [D.zero] at hz0
      injection hz0 with hz0
      subst hz0
      refine .zero (fun e => ?_)
      subst e
      exact hn 0 (UpN.refl hkN) (nd_inj D.nd D.zero hx)
    · obtain ⟨y, u, w1, w2, w3, w4, w5, w6⟩ := D.up hz (by omega)
      refine .step (ih u w3 y w2 (fun i hi => hn i (hi.trans w5))) w4 (fun e => ?_)
      subst e
      exact hn k (UpN.refl hkN) (nd_inj D.nd hz hx)
theorem Av.via (D : DfsF g M wb) {x : Nat} {v z : Nat} (h : Via (EdgG g) (fun t => t ≠ x) v z) (hv : Av g x v) (hz : z ≠ x) : Av g x z := by
  induction h with
  | one e => exact .step hv e hz
  | snoc _ q e ih => exact .step (ih q) e hz
/-- x dominates z. -/
def Dom (g : List (List Int)) (x z : Nat) : Prop := ¬ Av g x z
theorem Dom.up (D : DfsF g M wb) {x z nx k : Nat} (hx : M[nx]? = some x) (hz : M[k]? = some z) (h : Dom g x z) : UpN M wb nx k := by
  refine Classical.byContradiction fun hc => h (Av.tree D x nx hx k z hz (fun i hi e => ?_))
  subst e
  exact hc hi
/-- Strict dominators of a point: those of its parent that are not above its entry. -/
theorem dom_iff (D : DfsF g M wb) (F : EntF g M wb ent) {x nx w k p np e : Nat} (hx : M[nx]? = some x) (hw : M[k]? = some w) (h0 : 0 < k) (he : ent[k]? = some e) (hp : M[np]? = some p) (hpw : wb[w]? = some (some p)) : (Dom g x w ∧ x ≠ w) ↔ (Dom g x p ∧ nx ≤ e) := by
  have hkN := (List.getElem?_eq_some_iff.1 hw).1
  have hek := F.le k e h0 hkN he
  obtain ⟨y, u, w1, w2, w3, w4, w5, w6⟩ := D.up hw h0
  rw [hpw] at w1
  injection w1 with w1
  injection w1 with w1
  subst w1
  obtain rfl := nd_inj D.nd w2 hp
  constructor
  · rintro ⟨h1, h2⟩
    refine ⟨fun ha => h1 (.step ha w4 (Ne.symm h2)), ?_⟩
    refine Classical.byContradiction fun hc => h1 ?_
    have hnk := (h1.up D hx hw).le D
    have hnk2 : nx ≠ k := fun e2 => by
      subst e2
      rw [hx] at hw
      injection hw with hw
      exact h2 hw
    obtain ⟨v, hv, hV⟩ := F.way D _ k w e (Nat.le_refl _) h0 hw he
    exact Av.via D (hV.mono (by
      rintro z ⟨i, i1, i2⟩ e2
      subst e2
      have := nd_inj D.nd i1 hx
      omega)) (Av.tree D x nx hx e v hv (by
      intro i hi e2
      have := hi.le D
      omega)) (Ne.symm h2)
  · rintro ⟨h1, h2⟩
    have hne : x ≠ w := fun e2 => by
      subst e2
      have := nd_inj D.nd hx hw
      omega
    refine ⟨fun ha => ?_, hne⟩
    obtain ⟨y, f, y1, y2, y3, y4⟩ := ha.low D F hx k hw (by omega)
    rcases w6 y y1 with e2 | e2
    · subst e2
      rw [he] at y3
      injection y3 with y3
      omega
    · refine h1 ?_
      obtain ⟨a, b, a1, a2, a3⟩ := e2
      rw [hp] at a2
      injection a2 with a2
      subst a2
      obtain ⟨v, hv, hV⟩ := F.way D _ y a f (Nat.le_refl _) (by omega) a1 y3
      have hgt : ∀ (i z : Nat), M[i]? = some z → nx < i → z ≠ x := fun i z hi hlt e2 => by
        subst e2
        have := nd_inj D.nd hi hx
        omega
      have hV2 : Via (EdgG g) (fun t => t ≠ x) v a := hV.mono (fun z ⟨i, i1, i2⟩ => hgt i z i1 (by omega))
      have hV3 := hV2.down D a3 a1 (List.mem_of_getElem? hp) (fun i z hi hyi => hgt i z hi (by omega))
      refine Av.via D hV3 (Av.tree D x nx hx f v hv (fun i hi e2 => ?_)) (hgt u p hp ?_)
      · have := hi.le D
        omega
      · have := D.le a3 a1 hp
        omega
end
end Go.Proofs.Ytmhcecofknemkaa
