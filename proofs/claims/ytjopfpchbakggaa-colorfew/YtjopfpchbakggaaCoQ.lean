/- Registers and slots given one by one: what holds stays so at each interval. -/
import Derived.Test.YtjopfpchbakggaaCoP
set_option linter.unusedSimpArgs false
set_option linter.unusedVariables false
namespace Go.Proofs.Ytjopfpchbakggaa
open Go.RowKit

theorem set_get {α : Type} {l : List α} {p : Nat} {v w : α} {q : Nat} (h : (l.set p v)[q]? = some w) : (q = p ∧ w = v) ∨ (q ≠ p ∧ l[q]? = some w) := by
  by_cases hq : q = p
  · subst hq
    have hl := (List.getElem?_eq_some_iff.1 h).1
    rw [List.length_set] at hl
    rw [List.getElem?_set_self hl] at h
    injection h with h
    exact Or.inl ⟨rfl, h.symm⟩
  · rw [List.getElem?_set_ne (fun e => hq e.symm)] at h
    exact Or.inr ⟨hq, h⟩
theorem filter_app1 {l : List (Option Nat × Option Nat)} {z : Option Nat × Option Nat} : ((l ++ [z]).filter (fun z => z.2.isSome)).length = (l.filter (fun z => z.2.isSome)).length + if z.2.isSome then 1 else 0 := by
  rw [List.filter_append, List.length_append]
  cases h : z.2 <;> simp [h]
theorem filter_set : ∀ {l : List (Option Nat × Option Nat)} {w : Nat} {a : Option Nat} {v : Option Nat × Option Nat}, l[w]? = some (a, none) → v.2.isSome = true → ((l.set w v).filter (fun z => z.2.isSome)).length = (l.filter (fun z => z.2.isSome)).length + 1
  | y :: r, 0, a, v, h, hv => by
    simp at h
    subst h
    simp [hv]
  | y :: r, w + 1, a, v, h, hv => by
    have ih := filter_set (l := r) (w := w) (by simpa using h) hv
    rw [List.set_cons_succ, List.filter_cons, List.filter_cons]
    split <;> simp [ih]

theorem cStep_inv {L : List Iv} {m i : Nat} {c : CS} (I : CInv L m i c) (hs : ∀ j, j < i → (ivA L j).s ≤ (ivA L i).s) (he : (ivA L i).s ≤ (ivA L i).e) : CInv L m (i + 1) (cStep L i c) := by
  unfold cStep
  cases hf : cFree (cOver L (ivA L i).s c.h) with
  | some p =>
    simp only
    obtain ⟨hp, _⟩ := cFree_some hf
    have hpm : p < m := by
      have := (List.getElem?_eq_some_iff.1 hp).1
      rw [cover_len, I.hl] at this
      exact this
    have hno : ∀ k, (cOver L (ivA L i).s c.h)[p]? ≠ some (some k) := fun k e => by rw [hp] at e; cases e
    have hold : ∀ (k : Nat) s, c.o[k]? = some (some p, s) → (ivA L k).e < (ivA L i).s := fun k s hk => by
      rcases (I.b k p s hk).2.2 with h | ⟨j, hj, h⟩
      · exact Classical.byContradiction fun hn => hno k (cover_at.2 ⟨h, hn⟩)
      · have := hs j hj; omega
    refine ⟨by rw [List.length_set, cover_len, I.hl], by rw [List.length_append, I.ol]; rfl, ?_, ?_, ?_, ?_, ?_, fun h => full_mono (I.f h), by rw [filter_app1]; simp [I.g]⟩
    · intro q k h
      rcases set_get h with ⟨rfl, e⟩ | ⟨hq, h⟩
      · injection e with e
        subst e
        show (c.o ++ [(some q, none)])[k]? = _
        rw [List.getElem?_append_right (by rw [I.ol]; omega), I.ol, Nat.sub_self]
        rfl
      · have h1 := I.a q k (cover_at.1 h).1
        show (c.o ++ [(some p, none)])[k]? = _
        rw [List.getElem?_append_left (by rw [I.ol]; exact I.lt h1)]
        exact h1
    · intro k q s h
      rcases app_get I.ol h with ⟨hk, h0⟩ | ⟨rfl, e⟩
      · obtain ⟨b1, b2, b3⟩ := I.b k q s h0
        refine ⟨b1, b2, ?_⟩
        by_cases hq : q = p
        · subst hq
          exact Or.inr ⟨i, by omega, hold k s h0⟩
        · by_cases ho : (ivA L k).e < (ivA L i).s
          · exact Or.inr ⟨i, by omega, ho⟩
          · rcases b3 with h3 | ⟨j, hj, h3⟩
            · refine Or.inl ?_
              show ((cOver L (ivA L i).s c.h).set p (some i))[q]? = _
              rw [List.getElem?_set_ne (fun e => hq e.symm)]
              exact cover_at.2 ⟨h3, ho⟩
            · exact Or.inr ⟨j, by omega, h3⟩
      · injection e with e1 e2
        injection e1 with e1
        subst e1 e2
        refine ⟨rfl, hpm, Or.inl ?_⟩
        show ((cOver L (ivA L k).s c.h).set q (some k))[q]? = _
        rw [List.getElem?_set_self (by rw [cover_len, I.hl]; exact hpm)]
    · intro k k' q s s' hkk h h'
      rcases app_get I.ol h' with ⟨hk', h'⟩ | ⟨rfl, e⟩
      · rcases app_get I.ol h with ⟨hk, h⟩ | ⟨rfl, e⟩
        · exact I.x k k' q s s' hkk h h'
        · omega
      · injection e with e1 e2
        injection e1 with e1
        subst e1
        rcases app_get I.ol h with ⟨hk, h⟩ | ⟨rfl, e⟩
        · exact hold k s h
        · omega
    · intro k s h
      rcases app_get I.ol h with ⟨hk, h⟩ | ⟨rfl, e⟩
      · exact I.d k s h
      · injection e with e1 e2; cases e1
    · intro k k' t hkk h h'
      rcases app_get I.ol h' with ⟨hk', h'⟩ | ⟨rfl, e⟩
      · rcases app_get I.ol h with ⟨hk, h⟩ | ⟨rfl, e⟩
        · exact I.y k k' t hkk h h'
        · omega
      · injection e with e1 e2; cases e1
  | none =>
    simp only
    have hfull := full_at I hs he hf
    by_cases hw : cWorst L (cOver L (ivA L i).s c.h) i = i
    · rw [if_pos hw]
      refine ⟨by rw [cover_len, I.hl], by rw [List.length_append, I.ol]; rfl, ?_, ?_, ?_, ?_, ?_, fun _ => hfull, by rw [filter_app1]; simp [I.g]⟩
      · intro q k h
        have h1 := I.a q k (cover_at.1 h).1
        show (c.o ++ [(none, some c.n)])[k]? = _
        rw [List.getElem?_append_left (by rw [I.ol]; exact I.lt h1)]
        exact h1
      · intro k q s h
        rcases app_get I.ol h with ⟨hk, h⟩ | ⟨rfl, e⟩
        · obtain ⟨b1, b2, b3⟩ := I.b k q s h
          refine ⟨b1, b2, ?_⟩
          by_cases ho : (ivA L k).e < (ivA L i).s
          · exact Or.inr ⟨i, by omega, ho⟩
          · rcases b3 with h3 | ⟨j, hj, h3⟩
            · exact Or.inl (cover_at.2 ⟨h3, ho⟩)
            · exact Or.inr ⟨j, by omega, h3⟩
        · injection e with e1 e2; cases e1
      · intro k k' q s s' hkk h h'
        rcases app_get I.ol h' with ⟨hk', h'⟩ | ⟨rfl, e⟩
        · rcases app_get I.ol h with ⟨hk, h⟩ | ⟨rfl, e⟩
          · exact I.x k k' q s s' hkk h h'
          · omega
        · injection e with e1 e2; cases e1
      · intro k s h
        rcases app_get I.ol h with ⟨hk, h⟩ | ⟨rfl, e⟩
        · obtain ⟨t, h1, h2⟩ := I.d k s h
          exact ⟨t, h1, by show t < c.n + 1; omega⟩
        · injection e with e1 e2
          exact ⟨c.n, e2, by show c.n < c.n + 1; omega⟩
      · intro k k' t hkk h h'
        rcases app_get I.ol h' with ⟨hk', h'⟩ | ⟨rfl, e'⟩
        · rcases app_get I.ol h with ⟨hk, h⟩ | ⟨rfl, e⟩
          · exact I.y k k' t hkk h h'
          · omega
        · injection e' with e1 e2
          injection e2 with e2
          rcases app_get I.ol h with ⟨hk, h⟩ | ⟨rfl, e⟩
          · obtain ⟨t', h1, h2⟩ := I.d k _ h
            injection h1 with h1
            omega
          · omega
    · rw [if_neg hw]
      generalize hW : cWorst L (cOver L (ivA L i).s c.h) i = W at hw ⊢
      have hmem := cWorst_mem L (cOver L (ivA L i).s c.h) i
      rw [hW] at hmem
      rcases hmem with h | ⟨p, hp⟩
      · exact absurd h hw
      obtain ⟨hp1, hp2⟩ := cover_at.1 hp
      have hoW := I.a p W hp1
      have hpm := (I.b W p none hoW).2.1
      have hWi := I.lt hoW
      rw [hoW]
      simp only
      have hlen : (c.o.set W (none, some c.n)).length = i := by rw [List.length_set, I.ol]
      have hold : ∀ (k : Nat) s, k ≠ W → c.o[k]? = some (some p, s) → (ivA L k).e < (ivA L i).s := fun k s hk h => by
        rcases (I.b k p s h).2.2 with h3 | ⟨j, hj, h3⟩
        · rw [hp1] at h3
          injection h3 with h3
          injection h3 with h3
          exact absurd h3.symm hk
        · have := hs j hj; omega
      refine ⟨by rw [List.length_set, cover_len, I.hl], by rw [List.length_append, hlen]; rfl, ?_, ?_, ?_, ?_, ?_, fun _ => hfull, by rw [filter_app1, filter_set hoW rfl]; simp [I.g]⟩
      · intro q k h
        rcases set_get h with ⟨rfl, e⟩ | ⟨hq, h⟩
        · injection e with e
          subst e
          show (c.o.set W (none, some c.n) ++ [(some q, none)])[k]? = _
          rw [List.getElem?_append_right (by rw [hlen]; omega), hlen, Nat.sub_self]
          rfl
        · have h1 := I.a q k (cover_at.1 h).1
          have hkW : k ≠ W := fun e => by
            subst e
            rw [hoW] at h1
            injection h1 with h1
            injection h1 with h1
            injection h1 with h1
            exact hq h1.symm
          show (c.o.set W (none, some c.n) ++ [(some p, none)])[k]? = _
          rw [List.getElem?_append_left (by rw [hlen]; exact I.lt h1), List.getElem?_set_ne (fun e => hkW e.symm)]
          exact h1
      · intro k q s h
        rcases app_get hlen h with ⟨hk, h⟩ | ⟨rfl, e⟩
        · rcases set_get h with ⟨_, e⟩ | ⟨hkW, h⟩
          · injection e with e1 e2; cases e1
          have h0 := h
          obtain ⟨b1, b2, b3⟩ := I.b k q s h0
          refine ⟨b1, b2, ?_⟩
          by_cases ho : (ivA L k).e < (ivA L i).s
          · exact Or.inr ⟨i, by omega, ho⟩
          · by_cases hq : q = p
            · subst hq
              exact absurd (hold k s hkW h0) ho
            · rcases b3 with h3 | ⟨j, hj, h3⟩
              · refine Or.inl ?_
                show ((cOver L (ivA L i).s c.h).set p (some i))[q]? = _
                rw [List.getElem?_set_ne (fun e => hq e.symm)]
                exact cover_at.2 ⟨h3, ho⟩
              · exact Or.inr ⟨j, by omega, h3⟩
        · injection e with e1 e2
          injection e1 with e1
          subst e1 e2
          refine ⟨rfl, hpm, Or.inl ?_⟩
          show ((cOver L (ivA L k).s c.h).set q (some k))[q]? = _
          rw [List.getElem?_set_self (by rw [cover_len, I.hl]; exact hpm)]
      · intro k k' q s s' hkk h h'
        rcases app_get hlen h' with ⟨hk', h'⟩ | ⟨rfl, e⟩
        · rcases app_get hlen h with ⟨hk, h⟩ | ⟨rfl, e⟩
          · rcases set_get h with ⟨_, e⟩ | ⟨_, h⟩
            · injection e with e1 e2; cases e1
            rcases set_get h' with ⟨_, e⟩ | ⟨_, h'⟩
            · injection e with e1 e2; cases e1
            exact I.x k k' q s s' hkk h h'
          · omega
        · injection e with e1 e2
          injection e1 with e1
          subst e1
          rcases app_get hlen h with ⟨hk, h⟩ | ⟨rfl, e⟩
          · rcases set_get h with ⟨_, e⟩ | ⟨hkW, h⟩
            · injection e with e1 e2; cases e1
            exact hold k s hkW h
          · omega
      · intro k s h
        rcases app_get hlen h with ⟨hk, h⟩ | ⟨rfl, e⟩
        · rcases set_get h with ⟨_, e⟩ | ⟨_, h⟩
          · injection e with e1 e2
            exact ⟨c.n, e2, by show c.n < c.n + 1; omega⟩
          obtain ⟨t, h1, h2⟩ := I.d k s h
          exact ⟨t, h1, by show t < c.n + 1; omega⟩
        · injection e with e1 e2; cases e1
      · intro k k' t hkk h h'
        rcases app_get hlen h' with ⟨hk', h'⟩ | ⟨rfl, e'⟩
        · rcases app_get hlen h with ⟨hk, h⟩ | ⟨rfl, e⟩
          · rcases set_get h with ⟨hkW, e⟩ | ⟨hkW, h⟩
            · injection e with e1 e2
              injection e2 with e2
              rcases set_get h' with ⟨hkW', e'⟩ | ⟨hkW', h'⟩
              · omega
              obtain ⟨t', h1, h2⟩ := I.d k' _ h'
              injection h1 with h1
              omega
            · rcases set_get h' with ⟨hkW', e'⟩ | ⟨hkW', h'⟩
              · injection e' with e1 e2
                injection e2 with e2
                obtain ⟨t', h1, h2⟩ := I.d k _ h
                injection h1 with h1
                omega
              · exact I.y k k' t hkk h h'
          · omega
        · injection e' with e1 e2; cases e1
/-- Intervals in order, each of them not empty. -/
structure IvOk (L : List Iv) : Prop where
  s : ∀ j k : Nat, j ≤ k → k < L.length → (ivA L j).s ≤ (ivA L k).s
  e : ∀ k : Nat, k < L.length → (ivA L k).s ≤ (ivA L k).e
theorem cUp_inv {L : List Iv} (h : IvOk L) (m : Nat) : ∀ i, i ≤ L.length → CInv L m i (cUp L m i)
  | 0, _ => cInit L m
  | i + 1, hi => cStep_inv (cUp_inv h m i (by omega)) (fun j hj => h.s j i (by omega) (by omega)) (h.e i (by omega))

end Go.Proofs.Ytjopfpchbakggaa
