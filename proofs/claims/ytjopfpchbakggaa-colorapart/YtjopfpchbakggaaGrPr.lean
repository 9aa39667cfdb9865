/- Lists that grow, each in a block of its own; what leads to each point. -/
import Derived.Test.YtjopfpchbakggaaGrNw
set_option linter.unusedSimpArgs false
set_option linter.unusedVariables false
set_option maxRecDepth 10000
namespace Go.Proofs.Ytjopfpchbakggaa
open Go.RowKit

/-- The cells of lists: their addresses and rooms beside them. -/
def slC : List (List Nat) → List (Option Addr × Nat) → List Value
  | l :: r, a :: s => .slice a.1 l.length a.2 :: slC r s
  | _, _ => []
theorem slC_at : ∀ (ls : List (List Nat)) (ads : List (Option Addr × Nat)) (i : Nat) (l : List Nat) (a : Option Addr × Nat), ls[i]? = some l → ads[i]? = some a → (slC ls ads)[i]? = some (.slice a.1 l.length a.2)
  | [], ads, i, l, a, h1, h2 => by simp at h1
  | _ :: _, [], i, l, a, h1, h2 => by simp at h2
  | x :: r, y :: s, 0, l, a, h1, h2 => by simp at h1 h2; subst h1 h2; rfl
  | x :: r, y :: s, i + 1, l, a, h1, h2 => by rw [slC]; exact slC_at r s i l a (by simpa using h1) (by simpa using h2)
theorem slC_set : ∀ (ls : List (List Nat)) (ads : List (Option Addr × Nat)) (i : Nat) (l : List Nat) (a : Option Addr × Nat), (slC ls ads).set i (.slice a.1 l.length a.2) = slC (ls.set i l) (ads.set i a)
  | [], ads, i, l, a => by simp [slC]
  | x :: r, [], i, l, a => by cases i <;> simp [slC]
  | x :: r, y :: s, 0, l, a => by simp [slC]
  | x :: r, y :: s, i + 1, l, a => by rw [slC, List.set_cons_succ, slC_set r s i l a]; rfl
theorem slC_new : ∀ (n : Nat), slC (List.replicate n []) (List.replicate n (none, 0)) = List.replicate n (Value.slice none 0 0)
  | 0 => rfl
  | n + 1 => by rw [List.replicate_succ, List.replicate_succ, List.replicate_succ, slC, slC_new n]; rfl

/-- The world holds lists that are the call's own. -/
structure RwS (w0 w : World) (P : Nat) (ls : List (List Nat)) (ads : List (Option Addr × Nat)) : Prop where
  ext : Ext w0 w
  bP : w0.heap.size ≤ P
  rP : Row w P 41 (slC ls ads)
  len : ads.length = ls.length
  own : ∀ (i : Nat) (l : List Nat) (a : Option Addr × Nat), ls[i]? = some l → ads[i]? = some a → w.ownsRow w0.heap.size 3 1 (.slice a.1 l.length a.2) l.length (ns l)
  aP : ∀ (i : Nat) (a : Option Addr × Nat), ads[i]? = some a → obk a.1 ≠ some P
  ap : ∀ (i j : Nat) (a b : Option Addr × Nat), i ≠ j → ads[i]? = some a → ads[j]? = some b → ∀ k, obk a.1 = some k → obk b.1 ≠ some k

theorem RwS.on {w0 w w' : World} {P : Nat} {ls : List (List Nat)} {ads : List (Option Addr × Nat)} (h : RwS w0 w P ls ads) (k : Ext w w') : RwS w0 w' P ls ads :=
  ⟨h.ext.trans k, h.bP, h.rP.on k, h.len, fun i l a h1 h2 => k_own_heap (h.own i l a h1 h2) (fun j hj => k.block j ((h.own i l a h1 h2).lt j hj).2), h.aP, h.ap⟩
theorem RwS.at {w0 w : World} {P : Nat} {ls : List (List Nat)} {ads : List (Option Addr × Nat)} (h : RwS w0 w P ls ads) {i : Nat} {l : List Nat} (hl : ls[i]? = some l) : ∃ a : Option Addr × Nat, ads[i]? = some a ∧ w.cell? ⟨P, i, none⟩ = some (.slice a.1 l.length a.2) := by
  have hi := (List.getElem?_eq_some_iff.1 hl).1
  obtain ⟨a, ha⟩ : ∃ a, ads[i]? = some a := ⟨_, List.getElem?_eq_getElem (by rw [h.len]; exact hi)⟩
  exact ⟨a, ha, h.rP.cell i (slC_at ls ads i l a hl ha)⟩
theorem own_repI {w : World} {base n : Nat} {a : Option Addr} {m c : Nat} {l : List Nat} (h : w.ownsRow base 3 1 (.slice a m c) n (ns l)) : RepI w (In w) a (l.map (fun (x : Nat) => (x : Int))) := by
  rcases id h.2 with ⟨e, h0⟩ | ⟨g, cap, cur, e, hb, hg, hn, _⟩
  · have h1 := h.1
    rw [h0] at h1
    have : l = [] := by simpa [ns] using h1
    subst this
    exact Or.inl rfl
  · injection e with e1 e2 e3
    subst e1 e2 e3
    refine Or.inr ⟨g, 0, rfl, k_lt hg, fun j x hx => ?_⟩
    rw [List.getElem?_map] at hx
    cases hj : l[j]? with
    | none => rw [hj] at hx; cases hx
    | some y =>
      rw [hj] at hx
      injection hx with hx
      subst hx
      have := h.cells (g := g) rfl j (.int .i64 (y : Int)) (by simp [ns, hj])
      rw [k_add] at this
      rw [Nat.zero_add]
      exact this
theorem RwS.row {w0 w : World} {P : Nat} {ls : List (List Nat)} {ads : List (Option Addr × Nat)} (h : RwS w0 w P ls ads) {i : Nat} {l : List Nat} {a : Option Addr × Nat} (hl : ls[i]? = some l) (ha : ads[i]? = some a) : RepI w (In w) a.1 (l.map (fun (x : Nat) => (x : Int))) := own_repI (h.own i l a hl ha)
/-- As a graph. -/
theorem RwS.graph {w0 w : World} {P : Nat} {ls : List (List Nat)} {ads : List (Option Addr × Nat)} (h : RwS w0 w P ls ads) : RepG w (In w) (some ⟨P, 0, none⟩) (gUpG ls) := by
  refine Or.inr ⟨P, 0, rfl, k_lt h.rP, fun j l hl => ?_⟩
  unfold gUpG at hl
  rw [List.getElem?_map] at hl
  cases hj : ls[j]? with
  | none => rw [hj] at hl; cases hl
  | some l0 =>
    rw [hj] at hl
    injection hl with hl
    subst hl
    obtain ⟨a, ha, hc⟩ := h.at hj
    refine ⟨a.1, a.2, ?_, h.row hj ha⟩
    rw [Nat.zero_add, List.length_map]
    exact hc

theorem RwS.new (w : World) (n : Nat) : RwS w (w.alloc (.cells (List.replicate n (Value.slice none 0 0)).toArray 41)) w.heap.size (List.replicate n []) (List.replicate n (none, 0)) := by
  refine ⟨Ext.alloc _ _, Nat.le_refl _, ?_, by simp, fun i l a h1 h2 => ?_, fun i a h => ?_, fun i j a b _ h1 h2 k e => ?_⟩
  · rw [slC_new]; exact Row.new _ _ _
  · obtain rfl := List.eq_of_mem_replicate (List.mem_of_getElem? h1)
    obtain rfl := List.eq_of_mem_replicate (List.mem_of_getElem? h2)
    exact World.ownsRow_nil _ _ _ _
  · obtain rfl := List.eq_of_mem_replicate (List.mem_of_getElem? h)
    intro e; cases e
  · obtain rfl := List.eq_of_mem_replicate (List.mem_of_getElem? h1)
    cases e

theorem RwS.push {w0 w w3 : World} {P : Nat} {ls : List (List Nat)} {ads : List (Option Addr × Nat)} {ob : Obj} {g' cap' : Nat} (h : RwS w0 w P ls ads) {i : Nat} {l : List Nat} {a : Option Addr × Nat} (hl : ls[i]? = some l) (ha : ads[i]? = some a) (x : Nat)
    (g1 : (w.alloc ob).grownBy w3 (Value.slice a.1 l.length a.2).ownBlock)
    (ho : w3.ownsRow w0.heap.size 3 1 (.slice (some ⟨g', 0, none⟩) (l.length + 1) cap') (l.length + 1) (ns l ++ [.int .i64 (x : Int)]))
    (hw : (Value.slice a.1 l.length a.2).ownBlock = some g' ∨ w.heap.size + 1 ≤ g') :
    RwS w0 (w3.setCell ⟨P, i, none⟩ (.slice (some ⟨g', 0, none⟩) (l.length + 1) cap')) P (ls.set i (l ++ [x])) (ads.set i (some ⟨g', 0, none⟩, cap')) := by
  rw [obk_eq] at g1 hw
  have hi := (List.getElem?_eq_some_iff.1 hl).1
  have hP := k_lt h.rP
  have hk := h.on (Ext.alloc w ob)
  have nP : obk a.1 ≠ some P := h.aP i a ha
  have e3 : Ext w0 w3 := by
    refine Below.grown hk.ext g1 hk.ext.size ?_
    intro j hj
    exact ((hk.own i l a hl ha).lt j (by rw [obk_eq]; exact hj)).1
  have gP : P ≠ g' := by
    rintro rfl
    rcases hw with e | e
    · exact nP e
    · omega
  refine ⟨e3.set h.bP _, h.bP, ?_, by simp [h.len], fun j l2 a2 h1 h2 => ?_, fun j a2 h2 => ?_, fun j1 j2 a1 a2 hne h1 h2 k e => ?_⟩
  · have := (hk.rP.grown g1 (Ne.symm nP)).set i (.slice (some ⟨g', 0, none⟩) (l.length + 1) cap')
    have e := slC_set ls ads i (l ++ [x]) (some ⟨g', 0, none⟩, cap')
    rw [List.length_append] at e
    rw [← e]
    exact this
  · rw [List.getElem?_set] at h1 h2
    split at h1
    · rename_i e
      subst e
      rw [if_pos rfl, if_pos (by rw [h.len]; exact hi)] at h2
      injection h1 with h1
      injection h2 with h2
      subst h1 h2
      have := k_own_heap (W := w3.setCell ⟨P, i, none⟩ (.slice (some ⟨g', 0, none⟩) (l.length + 1) cap')) ho (fun q hq => Below.heap_setCell _ _ _ _ (by simp only [Value.ownBlock, Option.some.injEq] at hq; subst hq; exact Ne.symm gP))
      simpa [ns] using this
    · rename_i e
      rw [if_neg e] at h2
      refine k_own_heap (hk.own j l2 a2 h1 h2) (fun q hq => (Below.heap_setCell _ _ _ _ ?_).trans (g1.block q ((hk.own j l2 a2 h1 h2).lt q hq).2 ?_))
      · rw [obk_eq] at hq
        intro e2
        subst e2
        exact h.aP j a2 h2 hq
      · rw [obk_eq] at hq
        intro e2
        exact h.ap j i a2 a (fun e3 => e e3.symm) h2 ha q hq e2.symm
  · rw [List.getElem?_set] at h2
    split at h2
    · split at h2
      · injection h2 with h2
        subst h2
        intro e
        simp only [obk, Value.ownBlock, Option.some.injEq] at e
        exact gP e.symm
      · cases h2
    · exact h.aP j a2 h2
  · have fresh : ∀ j b, ads[j]? = some b → j ≠ i → obk b.1 ≠ some g' := by
      intro j b hb hji e
      rcases hw with e2 | e2
      · exact h.ap i j a b (Ne.symm hji) ha hb g' e2 e
      · have hj : j < ls.length := by rw [← h.len]; exact (List.getElem?_eq_some_iff.1 hb).1
        have := (h.own j _ b (List.getElem?_eq_getElem hj) hb).lt g' (by rw [obk_eq]; exact e)
        omega
    rw [List.getElem?_set] at h1 h2
    split at h1
    · rename_i e1
      split at h1
      · injection h1 with h1
        subst h1
        simp only [obk, Value.ownBlock, Option.some.injEq] at e
        subst e
        rw [if_neg (fun e2 => hne (e1.symm.trans e2))] at h2
        exact fresh j2 a2 h2 (fun e2 => hne (e1.symm.trans e2.symm))
      · cases h1
    · rename_i e1
      split at h2
      · rename_i e2
        split at h2
        · injection h2 with h2
          subst h2
          intro e3
          simp only [obk, Value.ownBlock, Option.some.injEq] at e3
          subst e3
          exact fresh j1 a1 h1 (fun e4 => e1 e4.symm) e
        · cases h2
      · exact h.ap j1 j2 a1 a2 hne h1 h2 k e

theorem gEnds_nil (p : Nat) : gEnds [] p = false := rfl
theorem getLast_at {l : List Nat} (h : 0 < l.length) : l.getLast? = l[l.length - 1]? := by
  rw [List.getLast?_eq_getElem?]

end Go.Proofs.Ytjopfpchbakggaa
