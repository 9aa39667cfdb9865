/- Registers and slots given one by one, as plain functions; what holds of what they give. -/
import Derived.Test.YtjopfpchbakggaaGrP
set_option linter.unusedSimpArgs false
set_option linter.unusedVariables false
namespace Go.Proofs.Ytjopfpchbakggaa
open Go.RowKit

/-- An interval: its register, its first and its last position. -/
structure Iv where
  r : Int
  s : Int
  e : Int
def ivA (L : List Iv) (k : Nat) : Iv := (L[k]?).getD ⟨0, 0, 0⟩
def cFr1 (L : List Iv) (s : Int) : Option Nat → Option Nat
  | none => none
  | some k => if (ivA L k).e < s then none else some k
/-- Registers of those that are over are free. -/
def cOver (L : List Iv) (s : Int) (h : List (Option Nat)) : List (Option Nat) := h.map (cFr1 L s)
/-- The least register that is free. -/
def cFree : List (Option Nat) → Option Nat
  | [] => none
  | none :: _ => some 0
  | some _ :: r => (cFree r).map (· + 1)
def cWr (x y : Iv) : Bool := decide (y.e < x.e ∨ (x.e = y.e ∧ y.r < x.r))
/-- The one of the greatest end, among those that hold registers and one more. -/
def cWorst (L : List Iv) : List (Option Nat) → Nat → Nat
  | [], w => w
  | none :: r, w => cWorst L r w
  | some k :: r, w => cWorst L r (if cWr (ivA L k) (ivA L w) then k else w)
/-- Who holds each register, what was given so far, how many slots. -/
structure CS where
  h : List (Option Nat)
  o : List (Option Nat × Option Nat)
  n : Nat
def cStep (L : List Iv) (i : Nat) (c : CS) : CS :=
  match cFree (cOver L (ivA L i).s c.h) with
  | some p => ⟨(cOver L (ivA L i).s c.h).set p (some i), c.o ++ [(some p, none)], c.n⟩
  | none => if cWorst L (cOver L (ivA L i).s c.h) i = i then ⟨cOver L (ivA L i).s c.h, c.o ++ [(none, some c.n)], c.n + 1⟩
    else match c.o[cWorst L (cOver L (ivA L i).s c.h) i]? with
      | some (some p, _) => ⟨(cOver L (ivA L i).s c.h).set p (some i), c.o.set (cWorst L (cOver L (ivA L i).s c.h) i) (none, some c.n) ++ [(some p, none)], c.n + 1⟩
      | _ => c
def cUp (L : List Iv) (m : Nat) : Nat → CS
  | 0 => ⟨List.replicate m none, [], 0⟩
  | i + 1 => cStep L i (cUp L m i)
/-- What is given to all, with so many registers. -/
def cAsg (L : List Iv) (n : Nat) : CS := cUp L (min (max n 1) (L.length + 1)) L.length

theorem cover_at {L : List Iv} {s : Int} {h : List (Option Nat)} {p k : Nat} : (cOver L s h)[p]? = some (some k) ↔ h[p]? = some (some k) ∧ ¬ (ivA L k).e < s := by
  unfold cOver
  rw [List.getElem?_map]
  cases h[p]? with
  | none => simp
  | some x =>
    cases x with
    | none => simp [cFr1]
    | some j =>
      simp only [Option.map_some, cFr1]
      by_cases hj : (ivA L j).e < s
      · rw [if_pos hj]
        constructor
        · intro h; cases h
        · rintro ⟨h, h2⟩; injection h with h; injection h with h; subst h; exact absurd hj h2
      · rw [if_neg hj]
        constructor
        · intro h; injection h with h; injection h with h; subst h; exact ⟨rfl, hj⟩
        · rintro ⟨h, _⟩; exact h
theorem cover_len (L : List Iv) (s : Int) (h : List (Option Nat)) : (cOver L s h).length = h.length := by simp [cOver]
theorem cFree_some : ∀ {h : List (Option Nat)} {p : Nat}, cFree h = some p → h[p]? = some none ∧ ∀ q, q < p → ∃ k, h[q]? = some (some k)
  | none :: r, p, e => by
    injection e with e
    subst e
    exact ⟨rfl, fun q hq => by omega⟩
  | some k :: r, p, e => by
    rw [cFree] at e
    cases hr : cFree r with
    | none => rw [hr] at e; cases e
    | some p' =>
      rw [hr] at e
      injection e with e
      subst e
      obtain ⟨h1, h2⟩ := cFree_some hr
      refine ⟨by simpa using h1, fun q hq => ?_⟩
      have hq : q < p' + 1 := hq
      cases q with
      | zero => exact ⟨k, rfl⟩
      | succ q => simpa using h2 q (by omega)
theorem cFree_none : ∀ {h : List (Option Nat)}, cFree h = none → ∀ (q : Nat) (x : Option Nat), h[q]? = some x → ∃ k, x = some k
  | [], _, q, x, hq => by simp at hq
  | none :: r, e, q, x, hq => by cases e
  | some k :: r, e, q, x, hq => by
    rw [cFree] at e
    cases hr : cFree r with
    | some p' => rw [hr] at e; cases e
    | none =>
      cases q with
      | zero => simp at hq; exact ⟨k, hq.symm⟩
      | succ q => exact cFree_none hr q x (by simpa using hq)
theorem cWorst_mem (L : List Iv) : ∀ (h : List (Option Nat)) (w : Nat), cWorst L h w = w ∨ ∃ p : Nat, h[p]? = some (some (cWorst L h w))
  | [], w => Or.inl rfl
  | none :: r, w => by
    rw [cWorst]
    rcases cWorst_mem L r w with h | ⟨p, h⟩
    · exact Or.inl h
    · exact Or.inr ⟨p + 1, by simpa using h⟩
  | some k :: r, w => by
    rw [cWorst]
    rcases cWorst_mem L r (if cWr (ivA L k) (ivA L w) then k else w) with h | ⟨p, h⟩
    · by_cases hk : cWr (ivA L k) (ivA L w) = true
      · rw [if_pos hk] at h ⊢
        exact Or.inr ⟨0, by rw [h]; rfl⟩
      · rw [if_neg hk] at h ⊢
        exact Or.inl h
    · exact Or.inr ⟨p + 1, by simpa using h⟩

/-- More than m have the position in common at which q begins. -/
def cFull (L : List Iv) (m i : Nat) : Prop := ∃ (q : Nat) (ks : List Nat), q < i ∧ ks.Nodup ∧ ks.length = m + 1 ∧ ∀ k ∈ ks, k < i ∧ (ivA L k).s ≤ (ivA L q).s ∧ (ivA L q).s ≤ (ivA L k).e
structure CInv (L : List Iv) (m i : Nat) (c : CS) : Prop where
  hl : c.h.length = m
  ol : c.o.length = i
  a : ∀ p k : Nat, c.h[p]? = some (some k) → c.o[k]? = some (some p, none)
  b : ∀ (k p : Nat) s, c.o[k]? = some (some p, s) → s = none ∧ p < m ∧ (c.h[p]? = some (some k) ∨ ∃ j, j < i ∧ (ivA L k).e < (ivA L j).s)
  x : ∀ (k k' p : Nat) s s', k < k' → c.o[k]? = some (some p, s) → c.o[k']? = some (some p, s') → (ivA L k).e < (ivA L k').s
  d : ∀ (k : Nat) s, c.o[k]? = some (none, s) → ∃ t, s = some t ∧ t < c.n
  y : ∀ k k' t : Nat, k < k' → c.o[k]? = some (none, some t) → c.o[k']? = some (none, some t) → False
  f : 0 < c.n → cFull L m i
  g : (c.o.filter (fun z => z.2.isSome)).length = c.n
theorem CInv.lt {L : List Iv} {m i : Nat} {c : CS} (I : CInv L m i c) {k : Nat} {z : Option Nat × Option Nat} (h : c.o[k]? = some z) : k < i := by
  rw [← I.ol]; exact (List.getElem?_eq_some_iff.1 h).1
theorem cInit (L : List Iv) (m : Nat) : CInv L m 0 ⟨List.replicate m none, [], 0⟩ := by
  refine ⟨by simp, rfl, ?_, ?_, ?_, ?_, ?_, ?_, rfl⟩
  · intro p k h
    rw [List.getElem?_replicate] at h
    split at h <;> cases h
  · intro k p s h; simp at h
  · intro k k' p s s' _ h; simp at h
  · intro k s h; simp at h
  · intro k k' t _ h; simp at h
  · intro h; exact absurd h (Nat.lt_irrefl 0)
theorem app_get {α : Type} {l : List α} {z w : α} {k i : Nat} (hl : l.length = i) (h : (l ++ [z])[k]? = some w) : (k < i ∧ l[k]? = some w) ∨ (k = i ∧ w = z) := by
  by_cases hk : k < i
  · rw [List.getElem?_append_left (by omega)] at h
    exact Or.inl ⟨hk, h⟩
  · rw [List.getElem?_append_right (by omega)] at h
    have hk0 : k - l.length = 0 := by
      have := (List.getElem?_eq_some_iff.1 h).1
      simp at this
      omega
    rw [hk0] at h
    simp at h
    exact Or.inr ⟨by omega, h.symm⟩
theorem full_mono {L : List Iv} {m i : Nat} (h : cFull L m i) : cFull L m (i + 1) := by
  obtain ⟨q, ks, h1, h2, h3, h4⟩ := h
  exact ⟨q, ks, by omega, h2, h3, fun k hk => ⟨by have := (h4 k hk).1; omega, (h4 k hk).2⟩⟩
/-- Where no register is free, all of them are held at a position in common with the one that comes. -/
theorem full_at {L : List Iv} {m i : Nat} {c : CS} (I : CInv L m i c) (hs : ∀ j, j < i → (ivA L j).s ≤ (ivA L i).s) (he : (ivA L i).s ≤ (ivA L i).e) (hf : cFree (cOver L (ivA L i).s c.h) = none) : cFull L m (i + 1) := by
  have hall := cFree_none hf
  have hat : ∀ p, p < m → ∃ k, (cOver L (ivA L i).s c.h)[p]? = some (some k) := fun p hp => by
    have hlt : p < (cOver L (ivA L i).s c.h).length := by rw [cover_len, I.hl]; exact hp
    obtain ⟨k, hk⟩ := hall p _ (List.getElem?_eq_getElem hlt)
    exact ⟨k, by rw [List.getElem?_eq_getElem hlt, hk]⟩
  obtain ⟨f, hf2⟩ : ∃ f : Nat → Nat, ∀ p, p < m → (cOver L (ivA L i).s c.h)[p]? = some (some (f p)) := by
    refine ⟨fun p => if h : p < m then Classical.choose (hat p h) else 0, fun p hp => ?_⟩
    simp only [dif_pos hp]
    exact Classical.choose_spec (hat p hp)
  have hk : ∀ p, p < m → f p < i ∧ (ivA L i).s ≤ (ivA L (f p)).e ∧ c.o[f p]? = some (some p, none) := fun p hp => by
    obtain ⟨h1, h2⟩ := cover_at.1 (hf2 p hp)
    have h3 := I.a p (f p) h1
    exact ⟨I.lt h3, by omega, h3⟩
  refine ⟨i, (List.range m).map f ++ [i], by omega, ?_, by simp, ?_⟩
  · rw [List.nodup_append]
    refine ⟨?_, by simp, ?_⟩
    · unfold List.Nodup
      rw [List.pairwise_map]
      refine List.Pairwise.imp_of_mem ?_ (List.nodup_range (n := m))
      intro a b ha hb hab e
      have h1 := (hk a (List.mem_range.1 ha)).2.2
      have h2 := (hk b (List.mem_range.1 hb)).2.2
      rw [e, h2] at h1
      injection h1 with h1
      injection h1 with h1
      injection h1 with h1
      exact hab h1.symm
    · intro a ha b hb
      obtain ⟨p, hp, rfl⟩ := List.mem_map.1 ha
      have := (hk p (List.mem_range.1 hp)).1
      simp at hb
      omega
  · intro k hk2
    rcases List.mem_append.1 hk2 with h | h
    · obtain ⟨p, hp, rfl⟩ := List.mem_map.1 h
      have := hk p (List.mem_range.1 hp)
      exact ⟨by omega, hs _ this.1, this.2.1⟩
    · simp at h
      subst h
      exact ⟨by omega, by omega, he⟩

end Go.Proofs.Ytjopfpchbakggaa
