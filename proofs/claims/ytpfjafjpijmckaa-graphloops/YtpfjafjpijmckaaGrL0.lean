/- Loops under way: what it is that a world holds them. -/
import Derived.Test.YtpfjafjpijmckaaGrNo
set_option linter.unusedSimpArgs false
set_option linter.unusedVariables false
set_option maxRecDepth 10000
namespace Go.Proofs.Ytpfjafjpijmckaa
open Go.RowKit

abbrev glC (x : GL) (a : Option Addr × Nat) : List Value := [.int .i64 (x.head : Int), .slice a.1 x.body.length a.2, .int .i64 (oI x.ins)]
def lpC : List GL → List (Option Addr × Nat) → List Value
  | x :: r, a :: s => .int .i64 (x.head : Int) :: .slice a.1 x.body.length a.2 :: .int .i64 (oI x.ins) :: lpC r s
  | _, _ => []
theorem lpC_at : ∀ (ls : List GL) (ads : List (Option Addr × Nat)) (i : Nat) (x : GL) (a : Option Addr × Nat), ls[i]? = some x → ads[i]? = some a → (lpC ls ads)[i * 3]? = some (.int .i64 (x.head : Int)) ∧ (lpC ls ads)[i * 3 + 1]? = some (.slice a.1 x.body.length a.2) ∧ (lpC ls ads)[i * 3 + 2]? = some (.int .i64 (oI x.ins))
  | [], ads, i, x, a, h1, h2 => by simp at h1
  | _ :: _, [], i, x, a, h1, h2 => by simp at h2
  | y :: r, b :: s, 0, x, a, h1, h2 => by simp at h1 h2; subst h1 h2; exact ⟨rfl, rfl, rfl⟩
  | y :: r, b :: s, i + 1, x, a, h1, h2 => by
    have := lpC_at r s i x a (by simpa using h1) (by simpa using h2)
    rw [lpC, show (i + 1) * 3 = i * 3 + 3 by omega]
    exact this
theorem lpC_set1 : ∀ (ls : List GL) (ads : List (Option Addr × Nat)) (i : Nat) (x : GL) (a : Option Addr × Nat) (body : List Nat) (a' : Option Addr × Nat), ls[i]? = some x → ads[i]? = some a → (lpC ls ads).set (i * 3 + 1) (.slice a'.1 body.length a'.2) = lpC (ls.set i ⟨x.head, body, x.ins⟩) (ads.set i a')
  | [], ads, i, x, a, b, a', h1, h2 => by simp at h1
  | _ :: _, [], i, x, a, b, a', h1, h2 => by simp at h2
  | y :: r, b :: s, 0, x, a, bo, a', h1, h2 => by simp at h1 h2; subst h1 h2; rfl
  | y :: r, b :: s, i + 1, x, a, bo, a', h1, h2 => by
    have := lpC_set1 r s i x a bo a' (by simpa using h1) (by simpa using h2)
    rw [lpC, show (i + 1) * 3 + 1 = i * 3 + 1 + 3 by omega, List.set_cons_succ, List.set_cons_succ, List.set_cons_succ, this]
    rfl
theorem lpC_set2 : ∀ (ls : List GL) (ads : List (Option Addr × Nat)) (i : Nat) (x : GL) (a : Option Addr × Nat) (y : Option Nat), ls[i]? = some x → ads[i]? = some a → (lpC ls ads).set (i * 3 + 2) (.int .i64 (oI y)) = lpC (ls.set i ⟨x.head, x.body, y⟩) ads
  | [], ads, i, x, a, b, h1, h2 => by simp at h1
  | _ :: _, [], i, x, a, b, h1, h2 => by simp at h2
  | y :: r, b :: s, 0, x, a, bo, h1, h2 => by simp at h1 h2; subst h1 h2; rfl
  | y :: r, b :: s, i + 1, x, a, bo, h1, h2 => by
    have := lpC_set2 r s i x a bo (by simpa using h1) (by simpa using h2)
    rw [lpC, show (i + 1) * 3 + 2 = i * 3 + 2 + 3 by omega, List.set_cons_succ, List.set_cons_succ, List.set_cons_succ, this]
    rfl
theorem lpC_app : ∀ (ls : List GL) (ads : List (Option Addr × Nat)) (x : GL) (a : Option Addr × Nat), ads.length = ls.length → lpC (ls ++ [x]) (ads ++ [a]) = lpC ls ads ++ glC x a
  | [], [], x, a, h => rfl
  | [], _ :: _, x, a, h => by simp at h
  | _ :: _, [], x, a, h => by simp at h
  | y :: r, b :: s, x, a, h => by
    have := lpC_app r s x a (by simpa using h)
    rw [List.cons_append, List.cons_append, lpC, this, lpC]
    rfl

theorem own_setG {w : World} {base : Nat} {t : TypeId} {size g n cap : Nat} {xs : List Value} (h : w.ownsRow base t size (.slice (some ⟨g, 0, none⟩) n cap) n xs) (i : Nat) (v : Value) : (w.setCell ⟨g, i, none⟩ v).ownsRow base t size (.slice (some ⟨g, 0, none⟩) n cap) n (xs.set i v) := by
  obtain ⟨h1, h2⟩ := h
  refine ⟨by simpa using h1, ?_⟩
  rcases h2 with ⟨e, h0⟩ | ⟨g2, cap2, cur, e, hb, hg, hn, hcm, hcs, ht⟩
  · cases e
  · injection e with e1 e2 e3
    injection e1 with e1
    injection e1 with e1
    subst e1 e3
    refine Or.inr ⟨g, cap, cur.setIfInBounds i v, rfl, hb, k_row_set hg i v, hn, hcm, by simpa using hcs, ?_⟩
    rw [← ht, Array.toList_setIfInBounds, List.take_set]

/-- The world holds the places of Heads and Loops, each with a row of its own. -/
structure LpS (w0 w : World) (pb : Nat) (pl : List (Option Nat)) (ls : List GL) (ads : List (Option Addr × Nat)) (la : Option Addr) (lc : Nat) : Prop where
  ext : Ext w0 w
  bP : w0.heap.size ≤ pb
  rP : Row w pb 3 (os pl)
  len : ads.length = ls.length
  oL : w.ownsRow w0.heap.size 43 3 (.slice la ls.length lc) ls.length (lpC ls ads)
  own : ∀ (i : Nat) (x : GL) (a : Option Addr × Nat), ls[i]? = some x → ads[i]? = some a → w.ownsRow w0.heap.size 3 1 (.slice a.1 x.body.length a.2) x.body.length (ns x.body)
  aL : obk la ≠ some pb
  aP : ∀ (i : Nat) (a : Option Addr × Nat), ads[i]? = some a → obk a.1 ≠ some pb ∧ ∀ k, obk la = some k → obk a.1 ≠ some k
  ap : ∀ (i j : Nat) (a b : Option Addr × Nat), i ≠ j → ads[i]? = some a → ads[j]? = some b → ∀ k, obk a.1 = some k → obk b.1 ≠ some k

section
variable {w0 w w' : World} {pb : Nat} {pl : List (Option Nat)} {ls : List GL} {ads : List (Option Addr × Nat)} {la : Option Addr} {lc : Nat}
theorem LpS.on (h : LpS w0 w pb pl ls ads la lc) (k : Ext w w') : LpS w0 w' pb pl ls ads la lc :=
  ⟨h.ext.trans k, h.bP, h.rP.on k, h.len, k_own_heap h.oL (fun i hi => k.block i (h.oL.lt i hi).2), fun i x a h1 h2 => k_own_heap (h.own i x a h1 h2) (fun j hj => k.block j ((h.own i x a h1 h2).lt j hj).2), h.aL, h.aP, h.ap⟩
theorem LpS.setP (h : LpS w0 w pb pl ls ads la lc) (p : Nat) (x : Option Nat) : LpS w0 (w.setCell ⟨pb, p, none⟩ (.int .i64 (oI x))) pb (pl.set p x) ls ads la lc := by
  refine ⟨h.ext.set (p := ⟨pb, p, none⟩) h.bP _, h.bP, by rw [← os_set]; exact h.rP.set p _, h.len, k_own_heap h.oL (fun i hi => Below.heap_setCell _ _ _ _ ?_), fun i y a h1 h2 => k_own_heap (h.own i y a h1 h2) (fun j hj => Below.heap_setCell _ _ _ _ ?_), h.aL, h.aP, h.ap⟩
  · rw [obk_eq] at hi
    intro e
    exact h.aL (by rw [hi, e])
  · rw [obk_eq] at hj
    intro e
    exact (h.aP i a h2).1 (by rw [hj, e])
theorem LpS.more {w3 : World} {ob : Obj} {g' cap' : Nat} (h : LpS w0 w pb pl ls ads la lc) (hd : Nat)
    (g1 : (w.alloc ob).grownBy w3 (Value.slice la ls.length lc).ownBlock)
    (ho : w3.ownsRow w0.heap.size 43 3 (.slice (some ⟨g', 0, none⟩) (ls.length + 1) cap') (ls.length + 1) (lpC ls ads ++ glC ⟨hd, [], none⟩ (none, 0)))
    (hw : (Value.slice la ls.length lc).ownBlock = some g' ∨ w.heap.size + 1 ≤ g') :
    LpS w0 w3 pb pl (ls ++ [⟨hd, [], none⟩]) (ads ++ [(none, 0)]) (some ⟨g', 0, none⟩) cap' := by
  rw [obk_eq] at g1 hw
  have hk := h.on (Ext.alloc w ob)
  have e3 : Ext w0 w3 := by
    refine Below.grown hk.ext g1 hk.ext.size ?_
    intro j hj
    exact (hk.oL.lt j (by rw [obk_eq]; exact hj)).1
  have lP := k_lt h.rP
  refine ⟨e3, h.bP, hk.rP.grown g1 (Ne.symm h.aL), by simp [h.len], ?_, fun i x a h1 h2 => ?_, ?_, fun i a h2 => ?_, fun i j a b hne h1 h2 k e => ?_⟩
  · rw [lpC_app _ _ _ _ h.len, List.length_append]
    exact ho
  · by_cases hi : i < ls.length
    · rw [List.getElem?_append_left hi] at h1
      rw [List.getElem?_append_left (by rw [h.len]; exact hi)] at h2
      refine k_own_heap (hk.own i x a h1 h2) (fun q hq => g1.block q ((hk.own i x a h1 h2).lt q hq).2 ?_)
      rw [obk_eq] at hq
      intro e
      exact (h.aP i a h2).2 q e.symm hq
    · have h1' := (List.getElem?_eq_some_iff.1 h1).1
      rw [List.length_append] at h1'
      simp only [List.length_cons, List.length_nil] at h1'
      obtain rfl : i = ls.length := by omega
      rw [List.getElem?_append_right (by omega), Nat.sub_self] at h1
      rw [List.getElem?_append_right (by rw [h.len]; omega), h.len, Nat.sub_self] at h2
      injection h1 with h1
      injection h2 with h2
      subst h1 h2
      exact World.ownsRow_nil _ _ _ _
  · intro e
    simp only [obk, Value.ownBlock, Option.some.injEq] at e
    subst e
    rcases hw with e | e
    · exact h.aL e
    · omega
  · by_cases hi : i < ads.length
    · rw [List.getElem?_append_left hi] at h2
      refine ⟨(h.aP i a h2).1, fun k e e2 => ?_⟩
      simp only [obk, Value.ownBlock, Option.some.injEq] at e
      subst e
      rcases hw with e | e
      · exact (h.aP i a h2).2 g' e e2
      · have := (h.own i _ a (List.getElem?_eq_getElem (by rw [← h.len]; exact hi)) h2).lt g' (by rw [obk_eq]; exact e2)
        omega
    · have h2' := (List.getElem?_eq_some_iff.1 h2).1
      rw [List.length_append] at h2'
      simp only [List.length_cons, List.length_nil] at h2'
      rw [List.getElem?_append_right (by omega), show i - ads.length = 0 by omega] at h2
      injection h2 with h2
      subst h2
      exact ⟨fun e => (by cases e), fun k _ e => (by cases e)⟩
  · by_cases hi : i < ads.length
    · by_cases hj : j < ads.length
      · rw [List.getElem?_append_left hi] at h1
        rw [List.getElem?_append_left hj] at h2
        exact h.ap i j a b hne h1 h2 k e
      · have h2' := (List.getElem?_eq_some_iff.1 h2).1
        rw [List.length_append] at h2'
        simp only [List.length_cons, List.length_nil] at h2'
        rw [List.getElem?_append_right (by omega), show j - ads.length = 0 by omega] at h2
        injection h2 with h2
        subst h2
        intro e; cases e
    · have h1' := (List.getElem?_eq_some_iff.1 h1).1
      rw [List.length_append] at h1'
      simp only [List.length_cons, List.length_nil] at h1'
      rw [List.getElem?_append_right (by omega), show i - ads.length = 0 by omega] at h1
      injection h1 with h1
      subst h1
      cases e
theorem LpS.at (h : LpS w0 w pb pl ls ads la lc) {i : Nat} {x : GL} (hx : ls[i]? = some x) : ∃ g a, la = some ⟨g, 0, none⟩ ∧ ls.length ≤ lc ∧ ads[i]? = some a ∧ w.cell? ⟨g, i * 3, none⟩ = some (.int .i64 (x.head : Int)) ∧ w.cell? ⟨g, i * 3 + 1, none⟩ = some (.slice a.1 x.body.length a.2) ∧ w.cell? ⟨g, i * 3 + 2, none⟩ = some (.int .i64 (oI x.ins)) ∧ (∀ j, w.frozen? ⟨g, j, none⟩ = false) := by
  have hi := (List.getElem?_eq_some_iff.1 hx).1
  obtain ⟨a, ha⟩ : ∃ a, ads[i]? = some a := ⟨_, List.getElem?_eq_getElem (by rw [h.len]; exact hi)⟩
  obtain ⟨c0, c1, c2⟩ := lpC_at ls ads i x a hx ha
  rcases id h.oL.2 with ⟨e, h0⟩ | ⟨g, cap, cur, e, hb, hg, hn, _⟩
  · omega
  · injection e with e1 e2 e3
    subst e1 e3
    have hc := fun j v (hv : (lpC ls ads)[j]? = some v) => h.oL.cells (g := g) rfl j v hv
    have q0 := hc _ _ c0
    have q1 := hc _ _ c1
    have q2 := hc _ _ c2
    rw [k_add] at q0 q1 q2
    exact ⟨g, a, rfl, hn, ha, q0, q1, q2, fun j => k_rowF hg j⟩
theorem LpS.setI {g : Nat} (h : LpS w0 w pb pl ls ads (some ⟨g, 0, none⟩) lc) {i : Nat} {x : GL} (hx : ls[i]? = some x) (y : Option Nat) : LpS w0 (w.setCell ⟨g, i * 3 + 2, none⟩ (.int .i64 (oI y))) pb pl (ls.set i ⟨x.head, x.body, y⟩) ads (some ⟨g, 0, none⟩) lc := by
  have hi := (List.getElem?_eq_some_iff.1 hx).1
  obtain ⟨a, ha⟩ : ∃ a, ads[i]? = some a := ⟨_, List.getElem?_eq_getElem (by rw [h.len]; exact hi)⟩
  have hgb := (h.oL.lt g rfl).1
  refine ⟨h.ext.set (p := ⟨g, i * 3 + 2, none⟩) hgb _, h.bP, h.rP.other (fun e => h.aL (by rw [e]; rfl)) _ _, by rw [List.length_set]; exact h.len, ?_, fun j z b h1 h2 => ?_, h.aL, h.aP, h.ap⟩
  · rw [List.length_set, ← lpC_set2 ls ads i x a y hx ha]
    exact own_setG h.oL _ _
  · rw [List.getElem?_set] at h1
    have hz : ∃ z0, ls[j]? = some z0 ∧ z.body = z0.body := by
      split at h1
      · rename_i e
        subst e
        injection h1 with h1
        subst h1
        exact ⟨x, hx, rfl⟩
      · exact ⟨z, h1, rfl⟩
    obtain ⟨z0, h3, h4⟩ := hz
    rw [h4]
    refine k_own_heap (h.own j z0 b h3 h2) (fun q hq => Below.heap_setCell _ _ _ _ ?_)
    rw [obk_eq] at hq
    intro e
    exact (h.aP j b h2).2 g rfl (by rw [hq, e])
theorem LpS.push {w3 : World} {ob : Obj} {g g' cap' : Nat} (h : LpS w0 w pb pl ls ads (some ⟨g, 0, none⟩) lc) {i : Nat} {x : GL} {a : Option Addr × Nat} (hx : ls[i]? = some x) (ha : ads[i]? = some a) (p : Nat)
    (g1 : (w.alloc ob).grownBy w3 (Value.slice a.1 x.body.length a.2).ownBlock)
    (ho : w3.ownsRow w0.heap.size 3 1 (.slice (some ⟨g', 0, none⟩) (x.body.length + 1) cap') (x.body.length + 1) (ns x.body ++ [.int .i64 (p : Int)]))
    (hw : (Value.slice a.1 x.body.length a.2).ownBlock = some g' ∨ w.heap.size + 1 ≤ g') :
    LpS w0 (w3.setCell ⟨g, i * 3 + 1, none⟩ (.slice (some ⟨g', 0, none⟩) (x.body.length + 1) cap')) pb pl (ls.set i ⟨x.head, x.body ++ [p], x.ins⟩) (ads.set i (some ⟨g', 0, none⟩, cap')) (some ⟨g, 0, none⟩) lc := by
  rw [obk_eq] at g1 hw
  have hi := (List.getElem?_eq_some_iff.1 hx).1
  have hk := h.on (Ext.alloc w ob)
  have hgb := h.oL.lt g rfl
  have lP := k_lt h.rP
  have haP := h.aP i a ha
  have e3 : Ext w0 w3 := by
    refine Below.grown hk.ext g1 hk.ext.size ?_
    intro j hj
    exact ((hk.own i x a hx ha).lt j (by rw [obk_eq]; exact hj)).1
  have ngp : pb ≠ g' := by
    rintro rfl
    rcases hw with e | e
    · exact haP.1 e
    · omega
  have ngg : g ≠ g' := by
    rintro rfl
    rcases hw with e | e
    · exact haP.2 g rfl e
    · omega
  have npg : pb ≠ g := fun e => h.aL (by rw [e]; rfl)
  refine ⟨e3.set (p := ⟨g, i * 3 + 1, none⟩) hgb.1 _, h.bP, (hk.rP.grown g1 (Ne.symm haP.1)).other npg _ _, by simp [h.len], ?_, fun j z b h1 h2 => ?_, h.aL, fun j b h2 => ?_, fun j1 j2 a1 a2 hne h1 h2 k e => ?_⟩
  · have e := lpC_set1 ls ads i x a (x.body ++ [p]) (some ⟨g', 0, none⟩, cap') hx ha
    rw [List.length_append] at e
    rw [List.length_set, ← e]
    have hL3 : w3.ownsRow w0.heap.size 43 3 (.slice (some ⟨g, 0, none⟩) ls.length lc) ls.length (lpC ls ads) := k_own_heap hk.oL (fun q hq => g1.block q (hk.oL.lt q hq).2 (fun e => by
      simp only [Value.ownBlock, Option.some.injEq] at hq
      subst hq
      exact haP.2 g rfl e.symm))
    exact own_setG hL3 _ _
  · rw [List.getElem?_set] at h1 h2
    by_cases hij : i = j
    · subst hij
      rw [if_pos rfl, if_pos hi] at h1
      rw [if_pos rfl, if_pos (by rw [h.len]; exact hi)] at h2
      injection h1 with h1
      injection h2 with h2
      subst h1 h2
      have := k_own_heap (W := w3.setCell ⟨g, i * 3 + 1, none⟩ (.slice (some ⟨g', 0, none⟩) (x.body.length + 1) cap')) ho (fun q hq => Below.heap_setCell _ _ _ _ (by simp only [Value.ownBlock, Option.some.injEq] at hq; subst hq; exact Ne.symm ngg))
      simpa [ns] using this
    · rw [if_neg hij] at h1 h2
      refine k_own_heap (hk.own j z b h1 h2) (fun q hq => (Below.heap_setCell _ _ _ _ ?_).trans (g1.block q ((hk.own j z b h1 h2).lt q hq).2 ?_))
      · rw [obk_eq] at hq
        intro e
        exact (h.aP j b h2).2 g rfl (by rw [hq, e])
      · rw [obk_eq] at hq
        intro e
        exact h.ap j i b a (Ne.symm hij) h2 ha q hq e.symm
  · rw [List.getElem?_set] at h2
    by_cases hij : i = j
    · subst hij
      rw [if_pos rfl, if_pos (by rw [h.len]; exact hi)] at h2
      injection h2 with h2
      subst h2
      refine ⟨fun e => ?_, fun k e e2 => ?_⟩
      · simp only [obk, Value.ownBlock, Option.some.injEq] at e
        exact ngp e.symm
      · simp only [obk, Value.ownBlock, Option.some.injEq] at e e2
        exact ngg (e.trans e2.symm)
    · rw [if_neg hij] at h2
      exact h.aP j b h2
  · have fresh : ∀ j b, ads[j]? = some b → j ≠ i → obk b.1 ≠ some g' := by
      intro j b hb hji e
      rcases hw with e2 | e2
      · exact h.ap i j a b (Ne.symm hji) ha hb g' e2 e
      · have hj : j < ls.length := by rw [← h.len]; exact (List.getElem?_eq_some_iff.1 hb).1
        have := (h.own j _ b (List.getElem?_eq_getElem hj) hb).lt g' (by rw [obk_eq]; exact e)
        omega
    rw [List.getElem?_set] at h1 h2
    by_cases e1 : i = j1
    · subst e1
      rw [if_pos rfl, if_pos (by rw [h.len]; exact hi)] at h1
      injection h1 with h1
      subst h1
      simp only [obk, Value.ownBlock, Option.some.injEq] at e
      subst e
      rw [if_neg hne] at h2
      exact fresh j2 a2 h2 (Ne.symm hne)
    · rw [if_neg e1] at h1
      by_cases e2 : i = j2
      · subst e2
        rw [if_pos rfl, if_pos (by rw [h.len]; exact hi)] at h2
        injection h2 with h2
        subst h2
        intro e3
        simp only [obk, Value.ownBlock, Option.some.injEq] at e3
        subst e3
        exact fresh j1 a1 h1 (Ne.symm e1) e
      · rw [if_neg e2] at h2
        exact h.ap j1 j2 a1 a2 hne h1 h2 k e
end

end Go.Proofs.Ytpfjafjpijmckaa
