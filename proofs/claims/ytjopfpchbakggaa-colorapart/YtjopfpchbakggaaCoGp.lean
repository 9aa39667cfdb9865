/- The package's own way to give registers, as plain functions: two rows in order; that it gives what the document's way gives. -/
import Derived.Test.YtjopfpchbakggaaCoC
import Derived.Test.YtjopfpchbakggaaCoH
set_option linter.unusedSimpArgs false
set_option linter.unusedVariables false
set_option maxRecDepth 10000
namespace Go.Proofs.Ytjopfpchbakggaa
open Go.RowKit

theorem cI_neg {a b : Int} : cI a b < 0 ↔ a < b := by
  unfold cI
  split
  · constructor <;> intro <;> omega
  · split <;> constructor <;> intro <;> omega
theorem cI_zero {a b : Int} : cI a b = 0 ↔ a = b := by
  unfold cI
  split
  · constructor <;> intro <;> omega
  · split <;> constructor <;> intro <;> omega
theorem or3_neg {x y z : Int} : orI [x, y, z] < 0 ↔ x < 0 ∨ (x = 0 ∧ (y < 0 ∨ (y = 0 ∧ z < 0))) := by
  simp only [orI]
  by_cases hx : x = 0
  · rw [if_neg (by simpa using hx)]
    by_cases hy : y = 0
    · rw [if_neg (by simpa using hy)]
      by_cases hz : z = 0
      · rw [if_neg (by simpa using hz)]
        omega
      · rw [if_pos hz]
        omega
    · rw [if_pos hy]
      omega
  · rw [if_pos hx]
    omega
theorem kC_neg {L : List Iv} {a b : Nat} : kC L a b < 0 ↔ (ivA L a).e < (ivA L b).e ∨ ((ivA L a).e = (ivA L b).e ∧ ((ivA L a).r < (ivA L b).r ∨ ((ivA L a).r = (ivA L b).r ∧ a < b))) := by
  unfold kC
  rw [or3_neg, cI_neg, cI_neg, cI_neg, cI_zero, cI_zero]
  omega
theorem kC_trans {L : List Iv} {a b c : Nat} (h : kC L a b < 0) (k : kC L b c < 0) : kC L a c < 0 := by
  rw [kC_neg] at *
  omega
theorem kC_tri {L : List Iv} {a b : Nat} (h : a ≠ b) : kC L a b < 0 ∨ kC L b a < 0 := by
  rw [kC_neg, kC_neg]
  omega
theorem kC_irr {L : List Iv} {a : Nat} : ¬ kC L a a < 0 := by
  rw [kC_neg]
  omega

theorem insAt_mem {l : List Nat} {i x y : Nat} : y ∈ insAt l i x ↔ y = x ∨ y ∈ l := by
  unfold insAt
  rw [List.mem_append, List.mem_cons]
  constructor
  · rintro (h | h | h)
    · exact Or.inr (List.mem_of_mem_take h)
    · exact Or.inl h
    · exact Or.inr (List.mem_of_mem_drop h)
  · rintro (h | h)
    · exact Or.inr (Or.inl h)
    · rw [← List.take_append_drop i l, List.mem_append] at h
      rcases h with h | h
      · exact Or.inl h
      · exact Or.inr (Or.inr h)
theorem bI_take (p : Nat → Bool) : ∀ (l : List Nat) (y : Nat), y ∈ l.take (bI p l) → p y = true
  | [], y, h => by simp at h
  | z :: r, y, h => by
    rw [bI] at h
    by_cases hz : p z = true
    · rw [if_pos hz, List.take_succ_cons, List.mem_cons] at h
      rcases h with rfl | h
      · exact hz
      · exact bI_take p r y h
    · rw [if_neg hz] at h
      simp at h
theorem bI_drop (p : Nat → Bool) (R : Nat → Nat → Prop) (hR : ∀ a b, R a b → p b = true → p a = true) : ∀ (l : List Nat), l.Pairwise R → ∀ y, y ∈ l.drop (bI p l) → p y = false
  | [], _, y, h => by simp at h
  | z :: r, hs, y, h => by
    rw [List.pairwise_cons] at hs
    rw [bI] at h
    by_cases hz : p z = true
    · rw [if_pos hz, List.drop_succ_cons] at h
      exact bI_drop p R hR r hs.2 y h
    · rw [if_neg hz, List.drop_zero, List.mem_cons] at h
      rcases h with rfl | h
      · simpa using hz
      · cases hy : p y with
        | false => rfl
        | true => exact absurd (hR z y (hs.1 y h) hy) hz
/-- A number put where it belongs: the row stays in order. -/
theorem insAt_sorted {R : Nat → Nat → Prop} {p : Nat → Bool} {l : List Nat} {x : Nat} (hs : l.Pairwise R) (hR : ∀ a b, R a b → p b = true → p a = true) (h1 : ∀ y, p y = true → R y x) (h2 : ∀ y ∈ l, p y = false → R x y) (ht : ∀ a b, R a x → R x b → R a b) : (insAt l (bI p l) x).Pairwise R := by
  unfold insAt
  have hd := bI_drop p R hR l hs
  rw [List.pairwise_append, List.pairwise_cons]
  refine ⟨hs.sublist (List.take_sublist _ _), ⟨fun y hy => h2 y (List.mem_of_mem_drop hy) (hd y hy), hs.sublist (List.drop_sublist _ _)⟩, fun a ha b hb => ?_⟩
  have hax := h1 a (bI_take p l a ha)
  rw [List.mem_cons] at hb
  rcases hb with rfl | hb
  · exact hax
  · exact ht a b hax (h2 b (List.mem_of_mem_drop hb) (hd b hb))

/-- A register that is free again; one more that holds a register. -/
def fIns (x : Nat) (l : List Nat) : List Nat := insAt l (bI (fun y => decide (cI (y : Int) (x : Int) < 0)) l) x
def kIns (L : List Iv) (x : Nat) (l : List Nat) : List Nat := insAt l (bI (fun y => decide (kC L y x < 0)) l) x
theorem fIns_mem {x y : Nat} {l : List Nat} : y ∈ fIns x l ↔ y = x ∨ y ∈ l := insAt_mem
theorem kIns_mem {L : List Iv} {x y : Nat} {l : List Nat} : y ∈ kIns L x l ↔ y = x ∨ y ∈ l := insAt_mem
theorem fIns_len (x : Nat) (l : List Nat) : (fIns x l).length = l.length + 1 := insAt_len (bI_le _ _)
theorem kIns_len (L : List Iv) (x : Nat) (l : List Nat) : (kIns L x l).length = l.length + 1 := insAt_len (bI_le _ _)
theorem fIns_le {x : Nat} {l : List Nat} (h : l.Pairwise (· ≤ ·)) : (fIns x l).Pairwise (· ≤ ·) := by
  refine insAt_sorted h (fun a b hab hb => ?_) (fun y hy => ?_) (fun y _ hy => ?_) (fun a b h1 h2 => Nat.le_trans h1 h2)
  · have := cI_neg.1 (of_decide_eq_true hb)
    exact decide_eq_true (cI_neg.2 (by omega))
  · have := cI_neg.1 (of_decide_eq_true hy)
    omega
  · have : ¬ ((y : Int) < (x : Int)) := fun h => by have := of_decide_eq_false hy; exact this (cI_neg.2 h)
    omega
theorem fIns_lt {x : Nat} {l : List Nat} (h : l.Pairwise (· < ·)) (hx : x ∉ l) : (fIns x l).Pairwise (· < ·) := by
  refine insAt_sorted h (fun a b hab hb => ?_) (fun y hy => ?_) (fun y hm hy => ?_) (fun a b h1 h2 => Nat.lt_trans h1 h2)
  · have := cI_neg.1 (of_decide_eq_true hb)
    exact decide_eq_true (cI_neg.2 (by omega))
  · have := cI_neg.1 (of_decide_eq_true hy)
    omega
  · have h1 : ¬ ((y : Int) < (x : Int)) := fun h => by have := of_decide_eq_false hy; exact this (cI_neg.2 h)
    have h2 : y ≠ x := fun e => hx (e ▸ hm)
    omega
theorem kIns_lt {L : List Iv} {x : Nat} {l : List Nat} (h : l.Pairwise (fun a b => kC L a b < 0)) (hx : x ∉ l) : (kIns L x l).Pairwise (fun a b => kC L a b < 0) := by
  refine insAt_sorted h (fun a b hab hb => ?_) (fun y hy => of_decide_eq_true hy) (fun y hm hy => ?_) (fun a b h1 h2 => kC_trans h1 h2)
  · exact decide_eq_true (kC_trans hab (of_decide_eq_true hb))
  · exact (kC_tri (fun (e : y = x) => hx (e ▸ hm))).resolve_left (of_decide_eq_false hy)

/-- Who gives its register back, as long as the first is over. -/
def pO (o : List (Option Nat × Option Nat)) (k : Nat) : Nat := match o[k]? with | some (some p, _) => p | _ => 0
def gPop (L : List Iv) (o : List (Option Nat × Option Nat)) (s : Int) : List Nat → List Nat → List Nat × List Nat
  | [], fr => ([], fr)
  | k :: r, fr => if (ivA L k).e < s then gPop L o s r (fIns (pO o k) fr) else (k :: r, fr)
structure GvS where
  fr : List Nat
  hd : List Nat
  o : List (Option Nat × Option Nat)
  n : Nat
def gGive (i : Nat) (h2 f1 : List Nat) (o : List (Option Nat × Option Nat)) (n : Nat) : GvS :=
  match f1 with
  | p :: f => ⟨f, h2, o ++ [(some p, none)], n⟩
  | [] => if h2.getLastD 0 = i then ⟨[], h2.dropLast, o ++ [(none, some n)], n + 1⟩ else ⟨[], h2.dropLast, o.set (h2.getLastD 0) (none, some n) ++ [(some (pO o (h2.getLastD 0)), none)], n + 1⟩
def gvStep (L : List Iv) (i : Nat) (g : GvS) : GvS := gGive i (kIns L i (gPop L g.o (ivA L i).s g.hd g.fr).1) (gPop L g.o (ivA L i).s g.hd g.fr).2 g.o g.n
def gvUp (L : List Iv) (m : Nat) : Nat → GvS
  | 0 => ⟨List.range m, [], [], 0⟩
  | i + 1 => gvStep L i (gvUp L m i)

/-- What both ways have in common when i were given. -/
structure GRel (L : List Iv) (m m' i : Nat) (g : GvS) (c : CS) : Prop where
  eo : g.o = c.o
  en : g.n = c.n
  hs : g.hd.Pairwise (fun a b => kC L a b < 0)
  hm : ∀ k, k ∈ g.hd ↔ ∃ p : Nat, c.h[p]? = some (some k)
  fs : g.fr.Pairwise (· < ·)
  fm : ∀ p, p ∈ g.fr ↔ p < m' ∧ c.h[p]? = some none
  z : ∀ q, i ≤ q → q < m → c.h[q]? = some none
  ln : g.hd.length + g.fr.length = m'
theorem cover_none {L : List Iv} {s : Int} {h : List (Option Nat)} {q : Nat} (e : h[q]? = some none) : (cOver L s h)[q]? = some none := by
  unfold cOver
  rw [List.getElem?_map, e]
  rfl
theorem cover_same {L : List Iv} {s : Int} {h : List (Option Nat)} (e : ∀ (p k : Nat), h[p]? = some (some k) → ¬ (ivA L k).e < s) : cOver L s h = h := by
  apply List.ext_getElem?
  intro p
  unfold cOver
  rw [List.getElem?_map]
  cases hp : h[p]? with
  | none => rfl
  | some x =>
    cases x with
    | none => rfl
    | some k => simp only [Option.map_some, cFr1]; rw [if_neg (e p k hp)]
theorem gPop_is {L : List Iv} {o : List (Option Nat × Option Nat)} {s : Int} {m' : Nat} : ∀ (hd fr : List Nat) (h : List (Option Nat)), hd.Pairwise (fun a b => kC L a b < 0) → (∀ k, k ∈ hd ↔ ∃ p : Nat, h[p]? = some (some k)) → (∀ (p k : Nat), h[p]? = some (some k) → o[k]? = some (some p, none) ∧ p < m') → fr.Pairwise (· < ·) → (∀ p, p ∈ fr ↔ p < m' ∧ h[p]? = some none) → hd.length + fr.length = m' →
    (gPop L o s hd fr).1.Pairwise (fun a b => kC L a b < 0) ∧ (∀ k, k ∈ (gPop L o s hd fr).1 ↔ ∃ p : Nat, (cOver L s h)[p]? = some (some k)) ∧ (gPop L o s hd fr).2.Pairwise (· < ·) ∧ (∀ p, p ∈ (gPop L o s hd fr).2 ↔ p < m' ∧ (cOver L s h)[p]? = some none) ∧ (gPop L o s hd fr).1.length + (gPop L o s hd fr).2.length = m'
  | [], fr, h, hs, hm, ho, fs, fm, ln => by
    have e : cOver L s h = h := cover_same fun p k hp => absurd ((hm k).2 ⟨p, hp⟩) (by simp)
    rw [e]
    exact ⟨hs, hm, fs, fm, ln⟩
  | k :: r, fr, h, hs, hm, ho, fs, fm, ln => by
    rw [List.pairwise_cons] at hs
    rw [gPop]
    by_cases hk : (ivA L k).e < s
    · rw [if_pos hk]
      obtain ⟨p, hp⟩ := (hm k).1 (by simp)
      obtain ⟨o1, o2⟩ := ho p k hp
      have hpo : pO o k = p := by unfold pO; rw [o1]
      rw [hpo]
      have hpl := (List.getElem?_eq_some_iff.1 hp).1
      have hset : ∀ q, (h.set p none)[q]? = if q = p then some none else h[q]? := fun q => by
        by_cases hq : q = p
        · subst hq; rw [if_pos rfl, List.getElem?_set_self hpl]
        · rw [if_neg hq, List.getElem?_set_ne (fun e => hq e.symm)]
      have huni : ∀ q, h[q]? = some (some k) → q = p := fun q hq => by
        have := (ho q k hq).1
        rw [o1] at this
        injection this with this
        injection this with this
        injection this with this
        exact this.symm
      have ec : cOver L s (h.set p none) = cOver L s h := by
        apply List.ext_getElem?
        intro q
        unfold cOver
        rw [List.getElem?_map, List.getElem?_map, hset]
        by_cases hq : q = p
        · subst hq; rw [if_pos rfl, hp]; simp only [Option.map_some, cFr1]; try rw [if_pos hk]
        · rw [if_neg hq]
      have hpf : p ∉ fr := fun hf => by
        have := ((fm p).1 hf).2
        rw [hp] at this
        cases this
      have := gPop_is (L := L) (o := o) (s := s) (m' := m') r (fIns p fr) (h.set p none) hs.2 (fun j => ?_) (fun q j hq => ?_) (fIns_lt fs hpf) (fun q => ?_) (by have e1 := fIns_len p fr; have e2 := ln; rw [List.length_cons] at e2; omega)
      · rw [ec] at this
        exact this
      · constructor
        · intro hj
          obtain ⟨q, hq⟩ := (hm j).1 (List.mem_cons_of_mem _ hj)
          refine ⟨q, ?_⟩
          rw [hset, if_neg]
          · exact hq
          · intro e
            subst e
            rw [hp] at hq
            injection hq with hq
            injection hq with hq
            subst hq
            exact kC_irr (hs.1 k hj)
        · rintro ⟨q, hq⟩
          rw [hset] at hq
          by_cases hqp : q = p
          · rw [if_pos hqp] at hq; cases hq
          · rw [if_neg hqp] at hq
            have := (hm j).2 ⟨q, hq⟩
            rw [List.mem_cons] at this
            rcases this with rfl | h
            · exact absurd (huni q hq) hqp
            · exact h
      · rw [hset] at hq
        by_cases hqp : q = p
        · rw [if_pos hqp] at hq; cases hq
        · rw [if_neg hqp] at hq; exact ho q j hq
      · rw [fIns_mem, fm, hset]
        by_cases hqp : q = p
        · subst hqp
          simp [o2]
        · rw [if_neg hqp]
          constructor
          · rintro (h | h)
            · exact absurd h hqp
            · exact h
          · exact Or.inr
    · rw [if_neg hk]
      have e : cOver L s h = h := cover_same fun p j hp => by
        have hj := (hm j).2 ⟨p, hp⟩
        rw [List.mem_cons] at hj
        rcases hj with rfl | hj
        · exact hk
        · have := kC_neg.1 (hs.1 j hj)
          omega
      rw [e]
      exact ⟨List.pairwise_cons.2 hs, hm, fs, fm, ln⟩

theorem cWr_not {L : List Iv} {a b c : Nat} (h1 : cWr (ivA L a) (ivA L b) = false) (h2 : cWr (ivA L b) (ivA L c) = false) : cWr (ivA L a) (ivA L c) = false := by
  unfold cWr at *
  simp only [decide_eq_false_iff_not] at *
  omega
theorem cWorst_max {L : List Iv} : ∀ (h : List (Option Nat)) (w : Nat), cWr (ivA L w) (ivA L (cWorst L h w)) = false ∧ ∀ (p k : Nat), h[p]? = some (some k) → cWr (ivA L k) (ivA L (cWorst L h w)) = false
  | [], w => ⟨by unfold cWorst cWr; simp, fun p k h => by simp at h⟩
  | none :: r, w => by
    rw [cWorst]
    refine ⟨(cWorst_max r w).1, fun p k h => ?_⟩
    cases p with
    | zero => simp at h
    | succ p => exact (cWorst_max r w).2 p k (by simpa using h)
  | some j :: r, w => by
    rw [cWorst]
    obtain ⟨h1, h2⟩ := cWorst_max (L := L) r (if cWr (ivA L j) (ivA L w) then j else w)
    by_cases hj : cWr (ivA L j) (ivA L w) = true
    · rw [if_pos hj] at h1 h2 ⊢
      have hw : cWr (ivA L w) (ivA L j) = false := by
        unfold cWr at *
        simp only [decide_eq_false_iff_not, decide_eq_true_eq] at *
        omega
      refine ⟨cWr_not hw h1, fun p k h => ?_⟩
      cases p with
      | zero =>
        simp at h
        subst h
        exact h1
      | succ p => exact h2 p k (by simpa using h)
    · rw [if_neg hj] at h1 h2 ⊢
      refine ⟨h1, fun p k h => ?_⟩
      cases p with
      | zero =>
        simp at h
        subst h
        exact cWr_not (by simpa using hj) h1
      | succ p => exact h2 p k (by simpa using h)
theorem last_max {R : Nat → Nat → Prop} {l : List Nat} (h : l.Pairwise R) (hne : l ≠ []) : l.getLastD 0 ∈ l ∧ (∀ k ∈ l, k ≠ l.getLastD 0 → R k (l.getLastD 0)) ∧ (∀ k, k ∈ l.dropLast → k ∈ l ∧ R k (l.getLastD 0)) ∧ ∀ k ∈ l, k ≠ l.getLastD 0 → k ∈ l.dropLast := by
  have e := List.dropLast_concat_getLast hne
  have eg : l.getLastD 0 = l.getLast hne := by
    cases l with
    | nil => exact absurd rfl hne
    | cons a r => rfl
  rw [eg]
  rw [← e] at h
  rw [List.pairwise_append] at h
  have hmem : ∀ k, k ∈ l ↔ k ∈ l.dropLast ∨ k = l.getLast hne := fun k => by
    constructor
    · intro hk
      rw [← e, List.mem_append] at hk
      simpa using hk
    · intro hk
      rw [← e, List.mem_append]
      simpa using hk
  refine ⟨List.getLast_mem hne, fun k hk hn => ?_, fun k hk => ⟨(hmem k).2 (Or.inl hk), h.2.2 k hk _ (by simp)⟩, fun k hk hn => ((hmem k).1 hk).resolve_right hn⟩
  exact h.2.2 k (((hmem k).1 hk).resolve_right hn) _ (by simp)

theorem gStep_rel {L : List Iv} {m m' i : Nat} {g : GvS} {c : CS} (G : GRel L m m' i g c) (I : CInv L m i c) (hi : i < L.length) (hm1 : m' ≤ m) (hm2 : ∀ q, q < m → q < L.length → q < m') (hr : ∀ j k : Nat, j < k → k < L.length → (ivA L j).r ≠ (ivA L k).r) : GRel L m m' (i + 1) (gvStep L i g) (cStep L i c) := by
  have held : ∀ (p k : Nat), c.h[p]? = some (some k) → c.o[k]? = some (some p, none) ∧ p < m' ∧ p < i ∧ k < i := fun p k h => by
    have h1 := I.a p k h
    have h2 := (List.getElem?_eq_some_iff.1 h).1
    rw [I.hl] at h2
    have h3 : p < i := Classical.byContradiction fun hn => by
      have := G.z p (by omega) h2
      rw [h] at this
      cases this
    exact ⟨h1, hm2 p h2 (by omega), h3, I.lt h1⟩
  obtain ⟨q1, q2, q3, q4, q5⟩ := gPop_is (L := L) (o := g.o) (s := (ivA L i).s) (m' := m') g.hd g.fr c.h G.hs G.hm (fun p k h => by rw [G.eo]; exact ⟨(held p k h).1, (held p k h).2.1⟩) G.fs G.fm G.ln
  unfold gvStep
  generalize gPop L g.o (ivA L i).s g.hd g.fr = PP at q1 q2 q3 q4 q5
  obtain ⟨h1, f1⟩ := PP
  simp only at q1 q2 q3 q4 q5 ⊢
  have hin : i ∉ h1 := fun h => by
    obtain ⟨p, hp⟩ := (q2 i).1 h
    have := (held p i (cover_at.1 hp).1).2.2.2
    omega
  have k1 := kIns_lt q1 hin
  have z1 : ∀ q, i ≤ q → q < m → (cOver L (ivA L i).s c.h)[q]? = some none := fun q h h' => cover_none (G.z q h h')
  have hol : g.o.length = i := by rw [G.eo]; exact I.ol
  rw [G.eo, G.en]
  unfold cStep
  cases hf : cFree (cOver L (ivA L i).s c.h) with
  | some q =>
    simp only
    obtain ⟨c1, c2⟩ := cFree_some hf
    have hqm : q < m := by
      have := (List.getElem?_eq_some_iff.1 c1).1
      rw [cover_len, I.hl] at this
      exact this
    have hqi : q ≤ i := Classical.byContradiction fun hn => by
      obtain ⟨k, hk⟩ := c2 i (by omega)
      rw [z1 i (Nat.le_refl _) (by omega)] at hk
      cases hk
    have hqf : q ∈ f1 := (q4 q).2 ⟨hm2 q hqm (by omega), c1⟩
    cases f1 with
    | nil => simp at hqf
    | cons p f =>
      rw [List.pairwise_cons] at q3
      obtain ⟨p1, p2⟩ := (q4 p).1 (by simp)
      have hpq : p = q := by
        rw [List.mem_cons] at hqf
        rcases hqf with h | h
        · exact h.symm
        · have h3 := q3.1 q h
          obtain ⟨k, hk⟩ := c2 p h3
          rw [p2] at hk
          cases hk
      subst hpq
      unfold gGive
      refine ⟨rfl, rfl, k1, fun k => ?_, q3.2, fun r => ?_, fun r h1 h2 => ?_, by have e1 := kIns_len L i h1; have e2 := q5; rw [List.length_cons] at e2; show (kIns L i h1).length + f.length = m'; omega⟩
      · rw [kIns_mem, q2]
        constructor
        · rintro (rfl | ⟨r, hr2⟩)
          · exact ⟨p, List.getElem?_set_self (by rw [cover_len, I.hl]; exact hqm)⟩
          · refine ⟨r, ?_⟩
            show ((cOver L (ivA L i).s c.h).set p (some i))[r]? = _
            rw [List.getElem?_set_ne]
            · exact hr2
            · intro e
              subst e
              rw [p2] at hr2
              cases hr2
        · rintro ⟨r, hr2⟩
          rcases set_get hr2 with ⟨rfl, e⟩ | ⟨_, h⟩
          · injection e with e
            exact Or.inl e
          · exact Or.inr ⟨r, h⟩
      · constructor
        · intro hr2
          obtain ⟨a1, a2⟩ := (q4 r).1 (List.mem_cons_of_mem _ hr2)
          have := q3.1 r hr2
          refine ⟨a1, ?_⟩
          show ((cOver L (ivA L i).s c.h).set p (some i))[r]? = _
          rw [List.getElem?_set_ne (by omega)]
          exact a2
        · rintro ⟨a1, a2⟩
          rcases set_get a2 with ⟨rfl, e⟩ | ⟨hne, h⟩
          · cases e
          · have := (q4 r).2 ⟨a1, h⟩
            rw [List.mem_cons] at this
            exact this.resolve_left hne
      · show ((cOver L (ivA L i).s c.h).set p (some i))[r]? = _
        rw [List.getElem?_set_ne (by omega)]
        exact z1 r (by omega) h2
  | none =>
    simp only
    have hall := cFree_none hf
    have hf1 : f1 = [] := by
      cases f1 with
      | nil => rfl
      | cons p f =>
        obtain ⟨_, a2⟩ := (q4 p).1 (by simp)
        obtain ⟨k, hk⟩ := hall p _ a2
        cases hk
    subst hf1
    unfold gGive
    simp only
    have hne : kIns L i h1 ≠ [] := fun e => by
      have := kIns_len L i h1
      rw [e] at this
      simp at this
    obtain ⟨l1, l2, l3, l4⟩ := last_max k1 hne
    have hlast : (kIns L i h1).getLastD 0 = cWorst L (cOver L (ivA L i).s c.h) i := by
      obtain ⟨w1, w2⟩ := cWorst_max (L := L) (cOver L (ivA L i).s c.h) i
      have hwm : cWorst L (cOver L (ivA L i).s c.h) i ∈ kIns L i h1 := by
        rw [kIns_mem]
        rcases cWorst_mem L (cOver L (ivA L i).s c.h) i with h | ⟨p, h⟩
        · exact Or.inl h
        · exact Or.inr ((q2 _).2 ⟨p, h⟩)
      generalize cWorst L (cOver L (ivA L i).s c.h) i = W at w1 w2 hwm
      refine Classical.byContradiction fun hn => ?_
      have hk := kC_neg.1 (l2 W hwm (fun e => hn e.symm))
      have hlt : ∀ k ∈ kIns L i h1, k < L.length := fun k hk => by
        rw [kIns_mem] at hk
        rcases hk with rfl | hk
        · exact hi
        · obtain ⟨p, hp⟩ := (q2 k).1 hk
          have := (held p k (cover_at.1 hp).1).2.2.2
          omega
      have h5 : cWr (ivA L ((kIns L i h1).getLastD 0)) (ivA L W) = false := by
        have := l1
        rw [kIns_mem] at this
        rcases this with e | h
        · rw [e]; exact w1
        · obtain ⟨p, hp⟩ := (q2 _).1 h
          exact w2 p _ hp
      unfold cWr at h5
      simp only [decide_eq_false_iff_not] at h5
      have h6 : (ivA L W).r ≠ (ivA L ((kIns L i h1).getLastD 0)).r := by
        rcases Nat.lt_or_gt_of_ne (fun e => hn e.symm : W ≠ (kIns L i h1).getLastD 0) with h | h
        · exact hr _ _ h (hlt _ l1)
        · exact fun e => hr _ _ h (hlt _ hwm) e.symm
      omega
    rw [hlast] at l1 l2 l3 l4 ⊢
    generalize hW : cWorst L (cOver L (ivA L i).s c.h) i = W at l1 l2 l3 l4
    have hdl : (kIns L i h1).dropLast.length = m' := by
      rw [List.length_dropLast, kIns_len]
      simp at q5
      omega
    have kd : (kIns L i h1).dropLast.Pairwise (fun a b => kC L a b < 0) := k1.sublist (List.dropLast_sublist _)
    have dm : ∀ k, k ∈ (kIns L i h1).dropLast ↔ (k = i ∨ k ∈ h1) ∧ k ≠ W := fun k => by
      constructor
      · intro h
        obtain ⟨a1, a2⟩ := l3 k h
        exact ⟨kIns_mem.1 a1, fun e => by subst e; exact kC_irr a2⟩
      · rintro ⟨a1, a2⟩
        exact l4 k (kIns_mem.2 a1) a2
    by_cases hwi : W = i
    · rw [if_pos hwi, if_pos hwi]
      refine ⟨rfl, rfl, kd, fun k => ?_, List.Pairwise.nil, fun r => ?_, fun r h1 h2 => z1 r (by omega) h2, by simpa using hdl⟩
      · rw [dm]
        constructor
        · rintro ⟨a1, a2⟩
          exact (q2 k).1 (a1.resolve_left (fun e => a2 (e.trans hwi.symm)))
        · intro h
          have hk := (q2 k).2 h
          exact ⟨Or.inr hk, fun e => hin (by rw [← hwi, ← e]; exact hk)⟩
      · constructor
        · intro h; simp at h
        · rintro ⟨_, h⟩
          obtain ⟨k, hk⟩ := hall r _ h
          cases hk
    · rw [if_neg hwi, if_neg hwi]
      have hmem := cWorst_mem L (cOver L (ivA L i).s c.h) i
      rw [hW] at hmem
      rcases hmem with h | ⟨p, hp⟩
      · exact absurd h hwi
      obtain ⟨b1, b2⟩ := cover_at.1 hp
      obtain ⟨o1, o2, o3, o4⟩ := held p W b1
      have hpm : p < m := by
        have := (List.getElem?_eq_some_iff.1 b1).1
        rw [I.hl] at this
        exact this
      have hpo : pO c.o W = p := by unfold pO; rw [o1]
      rw [hpo, o1]
      simp only
      refine ⟨rfl, rfl, kd, fun k => ?_, List.Pairwise.nil, fun r => ?_, fun r h1 h2 => ?_, by simpa using hdl⟩
      · rw [dm]
        constructor
        · rintro ⟨a1, a2⟩
          rcases a1 with rfl | a1
          · exact ⟨p, List.getElem?_set_self (by rw [cover_len, I.hl]; exact hpm)⟩
          · obtain ⟨r, hr2⟩ := (q2 k).1 a1
            refine ⟨r, ?_⟩
            show ((cOver L (ivA L i).s c.h).set p (some i))[r]? = _
            rw [List.getElem?_set_ne]
            · exact hr2
            · intro e
              subst e
              rw [hp] at hr2
              injection hr2 with hr2
              injection hr2 with hr2
              exact a2 hr2.symm
        · rintro ⟨r, hr2⟩
          rcases set_get hr2 with ⟨rfl, e⟩ | ⟨hne2, h⟩
          · injection e with e
            subst e
            exact ⟨Or.inl rfl, fun e => hwi e.symm⟩
          · refine ⟨Or.inr ((q2 k).2 ⟨r, h⟩), fun e => ?_⟩
            subst e
            have := (held r k (cover_at.1 h).1).1
            rw [o1] at this
            injection this with this
            injection this with this
            injection this with this
            exact hne2 this.symm
      · constructor
        · intro h; simp at h
        · rintro ⟨_, h⟩
          rcases set_get h with ⟨_, e⟩ | ⟨_, h⟩
          · cases e
          · obtain ⟨k, hk⟩ := hall r _ h
            cases hk
      · show ((cOver L (ivA L i).s c.h).set p (some i))[r]? = _
        rw [List.getElem?_set_ne (by omega)]
        exact z1 r (by omega) h2

/-- The number of registers that the package works with. -/
def gM (L : List Iv) (n : Nat) : Nat := max 1 (min n L.length)
theorem gvUp_rel {L : List Iv} (hG : IvGood L) (n : Nat) : ∀ i, i ≤ L.length → GRel L (min (max n 1) (L.length + 1)) (gM L n) i (gvUp L (gM L n) i) (cUp L (min (max n 1) (L.length + 1)) i)
  | 0, _ => by
    refine ⟨rfl, rfl, List.Pairwise.nil, fun k => ?_, List.pairwise_lt_range, fun p => ?_, fun q _ hq => ?_, by simp [gvUp]⟩
    · constructor
      · intro h; simp [gvUp] at h
      · rintro ⟨p, h⟩
        simp only [cUp] at h
        rw [List.getElem?_replicate] at h
        split at h <;> cases h
    · simp only [cUp, gvUp]
      rw [List.mem_range, List.getElem?_replicate]
      unfold gM
      constructor
      · intro h
        exact ⟨h, by rw [if_pos (by omega)]⟩
      · exact fun h => h.1
    · simp only [cUp]
      rw [List.getElem?_replicate, if_pos hq]
  | i + 1, hi => by
    refine gStep_rel (gvUp_rel hG n i (by omega)) (cUp_inv hG.ok _ i (by omega)) (by omega) ?_ (fun q h1 h2 => ?_) hG.rg
    · unfold gM; omega
    · unfold gM; omega
theorem g_is {L : List Iv} (hG : IvGood L) (n : Nat) : (gvUp L (gM L n) L.length).o = (cAsg L n).o := (gvUp_rel hG n L.length (Nat.le_refl _)).eo

end Go.Proofs.Ytjopfpchbakggaa
