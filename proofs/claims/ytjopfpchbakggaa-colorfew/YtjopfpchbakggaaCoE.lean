/- Rows of intervals, so many at once, in order: nothing is spilled, the least registers are taken; in plain words. -/
import Derived.Test.YtjopfpchbakggaaCoM
set_option linter.unusedSimpArgs false
set_option linter.unusedVariables false
namespace Go.Proofs.Ytjopfpchbakggaa
open Go.RowKit

/-- Where the interval of a register begins; rows of n. -/
def fwS (n r : Nat) : Nat := 10 * (r / n) + r % n % 3
def fwE (n r : Nat) : Nat := 10 * (r / n) + 5 + r % n % 4
def fw (n r : Nat) : Iv := ⟨(r : Int), (fwS n r : Int), (fwE n r : Int)⟩
/-- Registers in order of their starts, all of them. -/
structure Ord (n N : Nat) (p : List Nat) : Prop where
  len : p.length = N
  nd : p.Nodup
  lt : ∀ r ∈ p, r < N
  so : ∀ (i j x y : Nat), i ≤ j → p[i]? = some x → p[j]? = some y → fwS n x ≤ fwS n y
theorem fw_at {n k : Nat} {p : List Nat} {r : Nat} (h : p[k]? = some r) : ivA (p.map (fw n)) k = fw n r := by
  unfold ivA
  rw [List.getElem?_map, h]
  rfl
theorem fw_se (n r : Nat) : fwS n r ≤ fwE n r := by unfold fwS fwE; omega
theorem nd_at {l : List Nat} (h : l.Nodup) {i j x : Nat} (hi : l[i]? = some x) (hj : l[j]? = some x) : i = j := by
  obtain ⟨h1, e1⟩ := List.getElem?_eq_some_iff.1 hi
  obtain ⟨h2, e2⟩ := List.getElem?_eq_some_iff.1 hj
  exact (List.getElem_inj h).1 (e1.trans e2.symm)
theorem Ord.mem {n N : Nat} {p : List Nat} (h : Ord n N p) {r : Nat} (hr : r < N) : ∃ k : Nat, p[k]? = some r := by
  by_cases hm : r ∈ p
  · exact List.getElem?_of_mem hm
  · exfalso
    have hl := cnd_len (N - 1) (p.map (fun x => if x < r then x else x - 1)) (by
      unfold List.Nodup
      rw [List.pairwise_map]
      refine List.Pairwise.imp_of_mem ?_ h.nd
      intro a b ha hb hab e
      have h1 : a ≠ r := fun e => hm (by rw [← e]; exact ha)
      have h2 : b ≠ r := fun e => hm (by rw [← e]; exact hb)
      apply hab
      by_cases c1 : a < r <;> by_cases c2 : b < r <;> simp [c1, c2] at e <;> omega) (fun x hx => by
      obtain ⟨a, ha, rfl⟩ := List.mem_map.1 hx
      have h1 : a ≠ r := fun e => hm (by rw [← e]; exact ha)
      have h2 := h.lt a ha
      by_cases c1 : a < r <;> simp [c1] <;> omega)
    rw [List.length_map, h.len] at hl
    omega
theorem Ord.good {n N : Nat} {p : List Nat} (h : Ord n N p) (hN : N ≤ 1000) : IvGood (p.map (fw n)) := by
  have at' : ∀ k, k < (p.map (fw n)).length → ∃ r, p[k]? = some r ∧ r < N := fun k hk => by
    have hk : k < p.length := by simpa using hk
    exact ⟨p[k], List.getElem?_eq_getElem hk, h.lt _ (List.getElem_mem hk)⟩
  have hS : ∀ r, r < N → fwS n r ≤ 100000 ∧ fwE n r ≤ 100000 := fun r hr => by
    have := Nat.div_le_self r n
    unfold fwS fwE
    omega
  refine ⟨⟨fun j k hjk hk => ?_, fun k hk => ?_⟩, fun j k hjk hk => ?_, fun k hk => ?_⟩
  · obtain ⟨x, hx, _⟩ := at' j (by omega)
    obtain ⟨y, hy, _⟩ := at' k hk
    rw [fw_at hx, fw_at hy]
    have := h.so j k x y hjk hx hy
    show (fwS n x : Int) ≤ (fwS n y : Int)
    omega
  · obtain ⟨x, hx, _⟩ := at' k hk
    rw [fw_at hx]
    have := fw_se n x
    show (fwS n x : Int) ≤ (fwE n x : Int)
    omega
  · obtain ⟨x, hx, _⟩ := at' j (by omega)
    obtain ⟨y, hy, _⟩ := at' k hk
    rw [fw_at hx, fw_at hy]
    intro e
    have e : x = y := by have : (x : Int) = (y : Int) := e; omega
    subst e
    have := nd_at h.nd hx hy
    omega
  · obtain ⟨x, hx, hxN⟩ := at' k hk
    rw [fw_at hx]
    have := hS x hxN
    refine ⟨⟨by show (0 : Int) ≤ (x : Int); omega, by show (x : Int) ≤ 100000; omega⟩, ⟨by show (0 : Int) ≤ (fwS n x : Int); omega, by show (fwS n x : Int) ≤ 100000; omega⟩, by show (0 : Int) ≤ (fwE n x : Int); omega, by show (fwE n x : Int) ≤ 100000; omega⟩
/-- No more than n have a position in common. -/
theorem Ord.same {n N : Nat} {p : List Nat} (h : Ord n N p) (hn : 1 ≤ n) (q : Nat) (hq : q < N) : cSame (p.map (fw n)) q (p.map (fw n)).length ≤ n := by
  rw [cSame_len]
  obtain ⟨z, hz⟩ : ∃ z, p[q]? = some z := ⟨_, List.getElem?_eq_getElem (by rw [h.len]; exact hq)⟩
  obtain ⟨f, hf⟩ : ∃ f : Nat → Nat, ∀ k, k < N → p[k]? = some (f k) := ⟨fun k => (p[k]?).getD 0, fun k hk => by
    have hk : k < p.length := by rw [h.len]; exact hk
    simp [List.getElem?_eq_getElem hk]⟩
  have hin : ∀ k ∈ (List.range (p.map (fw n)).length).filter (cIs (p.map (fw n)) q), k < N ∧ f k / n = z / n := fun k hk => by
    obtain ⟨h1, h2⟩ := List.mem_filter.1 hk
    have hkN : k < N := by have := List.mem_range.1 h1; rw [List.length_map, h.len] at this; exact this
    refine ⟨hkN, ?_⟩
    unfold cIs at h2
    rw [fw_at (hf k hkN), fw_at hz] at h2
    simp at h2
    have e1 : fwS n (f k) ≤ fwS n z := by have : (fwS n (f k) : Int) ≤ (fwS n z : Int) := h2.1; omega
    have e2 : fwS n z ≤ fwE n (f k) := by have : (fwS n z : Int) ≤ (fwE n (f k) : Int) := h2.2; omega
    unfold fwS at e1 e2
    unfold fwE at e2
    omega
  have hl := cnd_len n (((List.range (p.map (fw n)).length).filter (cIs (p.map (fw n)) q)).map (fun k => f k % n)) (by
    unfold List.Nodup
    rw [List.pairwise_map]
    refine List.Pairwise.imp_of_mem ?_ ((List.nodup_range (n := (p.map (fw n)).length)).filter _)
    intro a b ha hb hab e
    obtain ⟨a1, a2⟩ := hin a ha
    obtain ⟨b1, b2⟩ := hin b hb
    have e3 : f a = f b := by
      have h1 := Nat.div_add_mod (f a) n
      have h2 := Nat.div_add_mod (f b) n
      rw [a2] at h1
      rw [b2] at h2
      have e : f a % n = f b % n := e
      omega
    have h1 := hf a a1
    have h2 := hf b b1
    rw [e3] at h1
    exact hab (nd_at h.nd h1 h2)) (fun x hx => by
    obtain ⟨k, _, rfl⟩ := List.mem_map.1 hx
    exact Nat.mod_lt _ (by omega))
  rw [List.length_map] at hl
  exact hl
theorem Ord.noslot {n N : Nat} {p : List Nat} (h : Ord n N p) (hn : 1 ≤ n) {c : CS} (A : CAns (p.map (fw n)) n c) : c.n = 0 := by
  refine Classical.byContradiction fun h0 => ?_
  obtain ⟨q, h1, h2⟩ := A.yes (by omega)
  rw [List.length_map, h.len] at h1
  have := h.same hn q h1
  omega
/-- The first n are those of the first row. -/
theorem Ord.first {n N : Nat} {p : List Nat} (h : Ord n N p) (hn : 1 ≤ n) (hN : n ≤ N) {j x : Nat} (hj : j < n) (hx : p[j]? = some x) : x < n := by
  refine Classical.byContradiction fun hc => ?_
  have hx10 : 10 ≤ fwS n x := by
    have : 1 ≤ x / n := (Nat.one_le_div_iff (by omega)).2 (by omega)
    unfold fwS
    omega
  obtain ⟨g, hg⟩ : ∃ g : Nat → Nat, ∀ r, r < n → p[g r * 1]? = some r := by
    refine ⟨fun r => if hr : r < N then Classical.choose (h.mem hr) else 0, fun r hr => ?_⟩
    simp only [dif_pos (show r < N by omega)]
    have := Classical.choose_spec (h.mem (show r < N by omega))
    simpa using this
  have hgj : ∀ r, r < n → g r < j := fun r hr => by
    refine Classical.byContradiction fun hge => ?_
    have h1 := hg r hr
    rw [Nat.mul_one] at h1
    have h2 := h.so j (g r) x r (by omega) hx h1
    have h3 : fwS n r < 10 := by
      unfold fwS
      rw [Nat.div_eq_of_lt hr]
      omega
    omega
  have hl := cnd_len j ((List.range n).map g) (by
    unfold List.Nodup
    rw [List.pairwise_map]
    refine List.Pairwise.imp_of_mem ?_ (List.nodup_range (n := n))
    intro a b ha hb hab e
    have h1 := hg a (List.mem_range.1 ha)
    have h2 := hg b (List.mem_range.1 hb)
    rw [e, h2] at h1
    injection h1 with h1
    exact hab h1.symm) (fun y hy => by
    obtain ⟨r, hr, rfl⟩ := List.mem_map.1 hy
    exact hgj r (List.mem_range.1 hr))
  rw [List.length_map, List.length_range] at hl
  omega

end Go.Proofs.Ytjopfpchbakggaa
