/- A graph under way, made list by list; a number below a bound out of any int. -/
import Derived.Test.YtdnhekgbfhlhoaaGrNw
set_option linter.unusedSimpArgs false
set_option linter.unusedVariables false
set_option maxRecDepth 10000
namespace Go.Proofs.Ytdnhekgbfhlhoaa
open Go.RowKit

def slI : List (List Int) → List (Option Addr × Nat) → List Value
  | l :: r, a :: s => .slice a.1 l.length a.2 :: slI r s
  | _, _ => []
theorem slI_app : ∀ (ls : List (List Int)) (ads : List (Option Addr × Nat)) (l : List Int) (a : Option Addr × Nat), ads.length = ls.length → slI (ls ++ [l]) (ads ++ [a]) = slI ls ads ++ [.slice a.1 l.length a.2]
  | [], [], x, a, h => rfl
  | [], _ :: _, x, a, h => by simp at h
  | _ :: _, [], x, a, h => by simp at h
  | y :: r, b :: s, x, a, h => by
    have := slI_app r s x a (by simpa using h)
    rw [List.cons_append, List.cons_append, slI, this, slI]
    rfl
theorem slI_at : ∀ (ls : List (List Int)) (ads : List (Option Addr × Nat)) (i : Nat) (l : List Int) (a : Option Addr × Nat), ls[i]? = some l → ads[i]? = some a → (slI ls ads)[i]? = some (.slice a.1 l.length a.2)
  | [], ads, i, l, a, h1, h2 => by simp at h1
  | _ :: _, [], i, l, a, h1, h2 => by simp at h2
  | x :: r, y :: s, 0, l, a, h1, h2 => by simp at h1 h2; subst h1 h2; rfl
  | x :: r, y :: s, i + 1, l, a, h1, h2 => by rw [slI]; exact slI_at r s i l a (by simpa using h1) (by simpa using h2)

/-- A graph under way. -/
structure GbS (w0 w : World) (ls : List (List Int)) (ads : List (Option Addr × Nat)) (ga : Option Addr) (gc : Nat) : Prop where
  ext : Ext w0 w
  len : ads.length = ls.length
  oG : w.ownsRow w0.heap.size 30 1 (.slice ga ls.length gc) ls.length (slI ls ads)
  rep : ∀ (i : Nat) (l : List Int) (a : Option Addr × Nat), ls[i]? = some l → ads[i]? = some a → RepI w (fun q => q < w.heap.size ∧ obk ga ≠ some q) a.1 l

theorem GbS.add {w0 w W w3 : World} {ls : List (List Int)} {ads : List (Option Addr × Nat)} {ga : Option Addr} {gc : Nat} {ob : Obj} {g' cap' : Nat} (h : GbS w0 w ls ads ga gc) (x : Ext w W) (l : List Int) (a : Option Addr × Nat) (hl : RepI W (fun q => w.heap.size ≤ q ∧ q < W.heap.size) a.1 l)
    (g1 : (W.alloc ob).grownBy w3 (Value.slice ga ls.length gc).ownBlock)
    (ho : w3.ownsRow w0.heap.size 30 1 (.slice (some ⟨g', 0, none⟩) (ls.length + 1) cap') (ls.length + 1) (slI ls ads ++ [.slice a.1 l.length a.2]))
    (hw : (Value.slice ga ls.length gc).ownBlock = some g' ∨ W.heap.size + 1 ≤ g') :
    GbS w0 w3 (ls ++ [l]) (ads ++ [a]) (some ⟨g', 0, none⟩) cap' := by
  rw [obk_eq] at g1 hw
  have xs := x.size
  have hz : (W.alloc ob).heap.size = W.heap.size + 1 := sz1 _ _
  have hs3 := g1.size
  have glt : ∀ q, obk ga = some q → q < w.heap.size := fun q e => (h.oG.lt q (by rw [obk_eq]; exact e)).2
  have e3 : Ext w0 w3 := by
    refine Below.grown ((h.ext.trans x).trans (Ext.alloc W ob)) g1 ((h.ext.trans x).trans (Ext.alloc W ob)).size ?_
    intro j hj
    exact (h.oG.lt j (by rw [obk_eq]; exact hj)).1
  have kp : ∀ q, q < W.heap.size → obk ga ≠ some q → w3.heap[q]? = W.heap[q]? := fun q hq hne => (g1.block q (by omega) (Ne.symm hne)).trans ((Ext.alloc W ob).block q hq)
  have ng : ∀ q, q < W.heap.size → obk ga ≠ some q → obk (some (⟨g', 0, none⟩ : Addr)) ≠ some q := fun q hq hne e => by
    simp only [obk, Value.ownBlock, Option.some.injEq] at e
    subst e
    rcases hw with e | e
    · exact hne e
    · omega
  refine ⟨e3, by simp [h.len], by rw [slI_app _ _ _ _ h.len, List.length_append]; exact ho, fun i l2 a2 h1 h2 => ?_⟩
  by_cases hi : i < ls.length
  · rw [List.getElem?_append_left hi] at h1
    rw [List.getElem?_append_left (by rw [h.len]; exact hi)] at h2
    refine (h.rep i l2 a2 h1 h2).to (fun q hq => ⟨⟨by omega, ng q (by omega) hq.2⟩, (kp q (by omega) hq.2).trans (x.block q hq.1)⟩)
  · have h1' := (List.getElem?_eq_some_iff.1 h1).1
    rw [List.length_append] at h1'
    simp only [List.length_cons, List.length_nil] at h1'
    obtain rfl : i = ls.length := by omega
    rw [List.getElem?_append_right (by omega), Nat.sub_self] at h1
    rw [List.getElem?_append_right (by rw [h.len]; omega), h.len, Nat.sub_self] at h2
    injection h1 with h1
    injection h2 with h2
    subst h1 h2
    have hne : ∀ q, w.heap.size ≤ q → obk ga ≠ some q := fun q hq e => by have := glt q e; omega
    exact hl.to (fun q hq => ⟨⟨by omega, ng q hq.2 (hne q hq.1)⟩, kp q hq.2 (hne q hq.1)⟩)
theorem GbS.graph {w0 w : World} {ls : List (List Int)} {ads : List (Option Addr × Nat)} {ga : Option Addr} {gc : Nat} (h : GbS w0 w ls ads ga gc) : RepG w (In w) ga ls := by
  by_cases h0 : ls = []
  · exact Or.inl h0
  · rcases id h.oG.2 with ⟨e, e0⟩ | ⟨g, cap, cur, e, hb, hg, hn, _⟩
    · exact absurd (List.length_eq_zero_iff.1 e0) h0
    · injection e with e1 e2 e3
      subst e1 e3
      refine Or.inr ⟨g, 0, rfl, k_lt hg, fun j l hl => ?_⟩
      have hj := (List.getElem?_eq_some_iff.1 hl).1
      obtain ⟨a, ha⟩ : ∃ a, ads[j]? = some a := ⟨_, List.getElem?_eq_getElem (by rw [h.len]; exact hj)⟩
      have := h.oG.cells (g := g) rfl j _ (slI_at ls ads j l a hl ha)
      rw [k_add] at this
      exact ⟨a.1, a.2, by rw [Nat.zero_add]; exact this, (h.rep j l a hl ha).to (fun q hq => ⟨hq.1, rfl⟩)⟩
theorem one_sl (a : Option Addr) (n c : Nat) : ∀ u ∈ ([.slice a n c] : List Value), u.oneCell' = true := by
  intro u hu
  simp at hu
  subst hu
  rfl
theorem rep_new (W : World) (l : List Int) (b : Nat) (hb : b = W.heap.size) : RepI (W.alloc (.cells (zs l).toArray 3)) (fun q => W.heap.size ≤ q ∧ q < (W.alloc (.cells (zs l).toArray 3)).heap.size) (some ⟨b, 0, none⟩) l := by
  subst hb
  refine Or.inr ⟨_, 0, rfl, ⟨Nat.le_refl _, by rw [sz1]; omega⟩, fun j x hx => ?_⟩
  rw [Nat.zero_add]
  exact (Row.new W (zs l) 3).cell j (by simp [zs, hx])
theorem n_mask (a : Int) (k : Nat) (hk : 0 < k) : ∃ n : Nat, (bits .and .i64 a 65535).tmod (k : Int) = n ∧ n < k := by
  have h : ∃ n : Nat, bits .and .i64 a 65535 = n ∧ n ≤ 65535 := by
    refine ⟨(BitVec.ofInt 64 a &&& BitVec.ofInt 64 65535).toNat, ?_, ?_⟩
    · have hl : (BitVec.ofInt 64 a &&& BitVec.ofInt 64 65535).toNat ≤ 65535 := by
        rw [BitVec.toNat_and]; exact Nat.and_le_right
      show IntKind.wrap .i64 ((BitVec.ofInt 64 a &&& BitVec.ofInt 64 65535).toNat : Int) = _
      generalize (BitVec.ofInt 64 a &&& BitVec.ofInt 64 65535).toNat = n at hl
      have e : IntKind.wrap .i64 (n : Int) = if (true && decide ((n : Int) % (18446744073709551616 : Int) ≥ (9223372036854775808 : Int))) = true then (n : Int) % 18446744073709551616 - 18446744073709551616 else (n : Int) % 18446744073709551616 := rfl
      rw [e]
      have : decide ((n : Int) % (18446744073709551616 : Int) ≥ (9223372036854775808 : Int)) = false := by
        rw [decide_eq_false_iff_not]; omega
      rw [this]
      simp only [Bool.and_false, Bool.false_eq_true, if_false]
      omega
    · rw [BitVec.toNat_and]; exact Nat.and_le_right
  obtain ⟨n, hn, _⟩ := h
  refine ⟨n % k, ?_, Nat.mod_lt _ hk⟩
  rw [hn]
  exact (Int.ofNat_tmod n k).symm

end Go.Proofs.Ytdnhekgbfhlhoaa
