/- Registers and slots given one by one: nothing is shared by two that overlap; a slot just where more than n have a position in common. -/
import Derived.Test.YtjopfpchbakggaaCoQ
set_option linter.unusedSimpArgs false
set_option linter.unusedVariables false
namespace Go.Proofs.Ytjopfpchbakggaa
open Go.RowKit

theorem cnd_len : ∀ (n : Nat) (l : List Nat), l.Nodup → (∀ x ∈ l, x < n) → l.length ≤ n
  | 0, l, _, h => by
    cases l with
    | nil => simp
    | cons a r => exact absurd (h a (List.mem_cons_self ..)) (by omega)
  | n + 1, l, hn, h => by
    by_cases hm : n ∈ l
    · have h1 := cnd_len n (l.erase n) (hn.erase n) (fun x hx => by
        rw [hn.mem_erase_iff] at hx
        have := h x hx.2
        omega)
      rw [List.length_erase_of_mem hm] at h1
      omega
    · have h1 := cnd_len n l hn (fun x hx => by
        have := h x hx
        have : x ≠ n := fun e => hm (by rw [← e]; exact hx)
        omega)
      omega
theorem csub_len : ∀ (l l' : List Nat), l.Nodup → (∀ x ∈ l, x ∈ l') → l.length ≤ l'.length
  | [], l', _, _ => by simp
  | x :: l, l', hn, h => by
    obtain ⟨h1, h2⟩ := List.nodup_cons.1 hn
    have hx := h x (by simp)
    have ih := csub_len l (l'.erase x) h2 (fun y hy => by
      have hne : y ≠ x := fun e => h1 (by rw [← e]; exact hy)
      exact (List.mem_erase_of_ne hne).2 (h y (by simp [hy])))
    rw [List.length_erase_of_mem hx] at ih
    have : 0 < l'.length := List.length_pos_of_mem hx
    simp only [List.length_cons]
    omega
/-- How many have the position in common at which q begins, among the first j. -/
def cIs (L : List Iv) (q k : Nat) : Bool := decide ((ivA L k).s ≤ (ivA L q).s) && decide ((ivA L q).s ≤ (ivA L k).e)
def cSame (L : List Iv) (q : Nat) : Nat → Nat
  | 0 => 0
  | j + 1 => cSame L q j + if cIs L q j then 1 else 0
theorem cSame_len (L : List Iv) (q : Nat) : ∀ j, cSame L q j = ((List.range j).filter (cIs L q)).length
  | 0 => rfl
  | j + 1 => by
    rw [cSame, cSame_len L q j, List.range_succ, List.filter_append, List.length_append]
    congr 1
    cases h : cIs L q j <;> simp [h]
theorem full_same {L : List Iv} {m : Nat} (h : cFull L m L.length) : ∃ q, q < L.length ∧ m < cSame L q L.length := by
  obtain ⟨q, ks, h1, h2, h3, h4⟩ := h
  refine ⟨q, h1, ?_⟩
  rw [cSame_len]
  have := csub_len ks ((List.range L.length).filter (cIs L q)) h2 (fun k hk => by
    obtain ⟨a, b, c⟩ := h4 k hk
    rw [List.mem_filter]
    refine ⟨List.mem_range.2 a, ?_⟩
    unfold cIs
    rw [decide_eq_true b, decide_eq_true c]
    rfl)
  omega
/-- What holds of what is given. -/
structure CAns (L : List Iv) (n : Nat) (c : CS) : Prop where
  len : c.o.length = L.length
  each : ∀ k, k < L.length → (∃ p, c.o[k]? = some (some p, none) ∧ p < n) ∨ ∃ t, c.o[k]? = some (none, some t)
  phys : ∀ (k k' p : Nat) s s', k < k' → c.o[k]? = some (some p, s) → c.o[k']? = some (some p, s') → (ivA L k).e < (ivA L k').s
  slot : ∀ k k' t : Nat, k < k' → c.o[k]? = some (none, some t) → c.o[k']? = some (none, some t) → False
  cnt : (c.o.filter (fun z => z.2.isSome)).length = c.n
  yes : 0 < c.n → ∃ q, q < L.length ∧ n < cSame L q L.length
  no : ∀ q, q < L.length → n < cSame L q L.length → 0 < c.n
theorem cAsg_ans {L : List Iv} (h : IvOk L) (n : Nat) (hn : 1 ≤ n) : CAns L n (cAsg L n) := by
  unfold cAsg
  rw [show max n 1 = n by omega]
  have I := cUp_inv h (min n (L.length + 1)) L.length (Nat.le_refl _)
  generalize cUp L (min n (L.length + 1)) L.length = c at I ⊢
  refine ⟨I.ol, fun k hk => ?_, I.x, I.y, I.g, fun h0 => ?_, fun q hq hc => ?_⟩
  · obtain ⟨z, hz⟩ : ∃ z, c.o[k]? = some z := ⟨_, List.getElem?_eq_getElem (by rw [I.ol]; exact hk)⟩
    obtain ⟨a, s⟩ := z
    cases a with
    | some p =>
      obtain ⟨b1, b2, _⟩ := I.b k p s hz
      subst b1
      exact Or.inl ⟨p, hz, by omega⟩
    | none =>
      obtain ⟨t, h1, _⟩ := I.d k s hz
      subst h1
      exact Or.inr ⟨t, hz⟩
  · have hF := I.f h0
    by_cases hm : n ≤ L.length + 1
    · rw [Nat.min_eq_left hm] at hF
      exact full_same hF
    · exfalso
      obtain ⟨q, ks, _, h2, h3, h4⟩ := hF
      have := cnd_len L.length ks h2 (fun k hk => (h4 k hk).1)
      omega
  · refine Nat.pos_of_ne_zero fun h0 => ?_
    rw [cSame_len] at hc
    have hall : ∀ k, k < L.length → ∃ p, c.o[k]? = some (some p, none) ∧ p < n := fun k hk => by
      obtain ⟨z, hz⟩ : ∃ z, c.o[k]? = some z := ⟨_, List.getElem?_eq_getElem (by rw [I.ol]; exact hk)⟩
      obtain ⟨a, s⟩ := z
      cases a with
      | some p =>
        obtain ⟨b1, b2, _⟩ := I.b k p s hz
        subst b1
        exact ⟨p, hz, by omega⟩
      | none =>
        obtain ⟨t, h1, h2⟩ := I.d k s hz
        omega
    obtain ⟨f, hf⟩ : ∃ f : Nat → Nat, ∀ k, k < L.length → c.o[f k * 0 + k]? = some (some (f k), none) ∧ f k < n := by
      refine ⟨fun k => if h : k < L.length then Classical.choose (hall k h) else 0, fun k hk => ?_⟩
      simp only [dif_pos hk]
      have := Classical.choose_spec (hall k hk)
      simpa using this
    have hnd : (((List.range L.length).filter (cIs L q)).map f).Nodup := by
      unfold List.Nodup
      rw [List.pairwise_map]
      refine List.Pairwise.imp_of_mem ?_ ((List.pairwise_lt_range (n := L.length)).filter _)
      intro a b ha hb hab e
      rw [List.mem_filter] at ha hb
      have h1 := (hf a (List.mem_range.1 ha.1)).1
      have h2 := (hf b (List.mem_range.1 hb.1)).1
      rw [Nat.mul_zero, Nat.zero_add] at h1 h2
      rw [← e] at h2
      have h3 := I.x a b (f a) _ _ hab h1 h2
      have ha2 := ha.2
      have hb2 := hb.2
      unfold cIs at ha2 hb2
      simp at ha2 hb2
      omega
    have := cnd_len n _ hnd (fun x hx => by
      obtain ⟨k, hk, rfl⟩ := List.mem_map.1 hx
      exact (hf k (List.mem_range.1 (List.mem_filter.1 hk).1)).2)
    rw [List.length_map] at this
    omega

end Go.Proofs.Ytjopfpchbakggaa
