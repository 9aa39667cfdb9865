/- ColorFew: two intervals change places, a region that draws its order. -/
import Derived.Test.YtjopfpchbakggaaCoX
set_option linter.unusedSimpArgs false
set_option linter.unusedVariables false
set_option maxRecDepth 10000
namespace Go.Proofs.Ytjopfpchbakggaa
open Go.RowKit

abbrev ds17 : List Nat := [74, 75, 76, 77, 78, 79, 80, 81, 82, 83, 84, 85, 86, 87, 88, 89]
/-- The cell that an operation fills. -/
def dk17 (i : Nat) : Nat := if i < 15 then 74 + i else 89
/-- What holds behind each set of operations that have come up. -/
structure KxI (A : Array Value) (W W1 W2 : World) (vs : Nat → Value) (l : Array Bool) (T : Array Value) (w : World) : Prop where
  sz : l.size = 18
  len : T.size = 158
  keep : ∀ j, j ∉ ds17 → T[j]? = A[j]?
  val : ∀ i, i < 17 → i ≠ 15 → ltA l i → T[dk17 i]? = some (vs i)
  o8 : ltA l 15 → ltA l 8
  o13 : ltA l 15 → ltA l 13
  o17 : ltA l 17 → ltA l 15
  w0 : ¬ ltA l 15 → w = W
  w1 : ltA l 15 → ¬ ltA l 17 → w = W1
  w2 : ltA l 17 → w = W2
variable {A : Array Value} {W W1 W2 : World} {vs : Nat → Value} {l : Array Bool} {T : Array Value} {w : World}
theorem dk17_mem {i : Nat} (h : i < 17) (k : i ≠ 15) : dk17 i ∈ ds17 ∧ dk17 i < 158 := by
  unfold dk17
  rcases (show i = 0 ∨ i = 1 ∨ i = 2 ∨ i = 3 ∨ i = 4 ∨ i = 5 ∨ i = 6 ∨ i = 7 ∨ i = 8 ∨ i = 9 ∨ i = 10 ∨ i = 11 ∨ i = 12 ∨ i = 13 ∨ i = 14 ∨ i = 16 by omega) with rfl | rfl | rfl | rfl | rfl | rfl | rfl | rfl | rfl | rfl | rfl | rfl | rfl | rfl | rfl | rfl <;> decide
theorem dk17_inj {i j : Nat} (h : i < 17) (k : i ≠ 15) (h2 : j < 17) (k2 : j ≠ 15) (e : dk17 i = dk17 j) : i = j := by
  unfold dk17 at e
  split at e <;> split at e <;> omega
theorem KxI.pure (h : KxI A W W1 W2 vs l T w) (i : Nat) (hi : i < 17) (hi5 : i ≠ 15) : KxI A W W1 W2 vs (l.setIfInBounds i true) (T.setIfInBounds (dk17 i) (vs i)) w := by
  have hiz : i < l.size := by rw [h.sz]; omega
  obtain ⟨hm, hdM⟩ := dk17_mem hi hi5
  have lo : ∀ j, j ≠ i → ltA (l.setIfInBounds i true) j → ltA l j := fun j hj h => ((ltA_set hiz).1 h).resolve_left hj
  have up : ∀ j, ltA l j → ltA (l.setIfInBounds i true) j := fun j h => (ltA_set hiz).2 (Or.inr h)
  refine ⟨by rw [Array.size_setIfInBounds]; exact h.sz, by rw [Array.size_setIfInBounds]; exact h.len, fun j hj => by rw [T_other (fun e => hj (by rw [← e]; exact hm))]; exact h.keep j hj, fun k hk hk5 hl => ?_, fun h1 => up _ (h.o8 (lo _ (by omega) h1)), fun h1 => up _ (h.o13 (lo _ (by omega) h1)), fun h1 => up _ (h.o17 (lo _ (by omega) h1)), fun h1 => h.w0 (fun h2 => h1 (up _ h2)), fun h1 h2 => h.w1 (lo _ (by omega) h1) (fun h3 => h2 (up _ h3)), fun h1 => h.w2 (lo _ (by omega) h1)⟩
  by_cases e : k = i
  · subst e
    exact T_self (by rw [h.len]; exact hdM)
  · rw [T_other (fun e2 => e (dk17_inj hk hk5 hi hi5 e2.symm))]
    exact h.val k hk hk5 (lo _ e hl)
theorem KxI.put1 (h : KxI A W W1 W2 vs l T w) (h8 : ltA l 8) (h13 : ltA l 13) (hn : ¬ ltA l 15) : KxI A W W1 W2 vs (l.setIfInBounds 15 true) T W1 := by
  have hiz : 15 < l.size := by rw [h.sz]; omega
  have lo : ∀ j, j ≠ 15 → ltA (l.setIfInBounds 15 true) j → ltA l j := fun j hj h => ((ltA_set hiz).1 h).resolve_left hj
  have up : ∀ j, ltA l j → ltA (l.setIfInBounds 15 true) j := fun j h => (ltA_set hiz).2 (Or.inr h)
  have my : ltA (l.setIfInBounds 15 true) 15 := (ltA_set hiz).2 (Or.inl rfl)
  exact ⟨by rw [Array.size_setIfInBounds]; exact h.sz, h.len, h.keep, fun k hk hk5 hl => h.val k hk hk5 (lo _ hk5 hl), fun _ => up _ h8, fun _ => up _ h13, fun _ => my, fun h1 => absurd my h1, fun _ _ => rfl, fun h1 => absurd (h.o17 (lo _ (by omega) h1)) hn⟩
theorem KxI.put2 (h : KxI A W W1 W2 vs l T w) (h15 : ltA l 15) (hn : ¬ ltA l 17) : KxI A W W1 W2 vs (l.setIfInBounds 17 true) T W2 := by
  have hiz : 17 < l.size := by rw [h.sz]; omega
  have lo : ∀ j, j ≠ 17 → ltA (l.setIfInBounds 17 true) j → ltA l j := fun j hj h => ((ltA_set hiz).1 h).resolve_left hj
  have up : ∀ j, ltA l j → ltA (l.setIfInBounds 17 true) j := fun j h => (ltA_set hiz).2 (Or.inr h)
  have my : ltA (l.setIfInBounds 17 true) 17 := (ltA_set hiz).2 (Or.inl rfl)
  exact ⟨by rw [Array.size_setIfInBounds]; exact h.sz, h.len, h.keep, fun k hk hk5 hl => h.val k hk hk5 (lo _ (by omega) hl), fun _ => up _ (h.o8 h15), fun _ => up _ (h.o13 h15), fun _ => up _ h15, fun h1 => absurd (up _ h15) h1, fun _ h1 => absurd my h1, fun _ => rfl⟩
theorem KxI.start (hA : A.size = 158) : KxI A W W1 W2 vs (Array.replicate 18 false) A W := by
  have no : ∀ i, ¬ ltA (Array.replicate 18 false) i := fun i h => by
    unfold ltA at h
    rw [Array.getElem?_replicate] at h
    split at h <;> cases h
  exact ⟨by simp, hA, fun _ _ => rfl, fun i _ _ h => absurd h (no i), fun h => absurd h (no _), fun h => absurd h (no _), fun h => absurd h (no _), fun _ => rfl, fun h => absurd h (no _), fun h => absurd h (no _)⟩
/-- Behind all of them. -/
def KxPost (A : Array Value) (W W1 W2 : World) (vs : Nat → Value) : Exit → Act → World → Prop
  | .normal, a, w => a.defers = [] ∧ ∃ l, KxI A W W1 W2 vs l a.tmps w ∧ ∀ i, i < 18 → ltA l i
  | _, _, _ => False

def vs17 (g N cap K : Nat) (x y : T3) : Nat → Value
  | 0 => .slice (some ⟨g, 0, none⟩) N cap
  | 1 => .int .i64 ((K : Int) + 1)
  | 2 => .int .i64 (K : Int)
  | 3 => .slice (some ⟨g, 0, none⟩) N cap
  | 4 => .int .i64 ((K : Int) + 1)
  | 5 => .slice (some ⟨g, 0, none⟩) N cap
  | 6 => .int .i64 ((K : Int) + 1)
  | 7 => .pointer (some ⟨g, (K + 1) * 3, none⟩)
  | 8 => .agg (iv3 y)
  | 9 => .slice (some ⟨g, 0, none⟩) N cap
  | 10 => .int .i64 ((K : Int) + 1)
  | 11 => .int .i64 (K : Int)
  | 12 => .pointer (some ⟨g, K * 3, none⟩)
  | 13 => .agg (iv3 x)
  | 14 => .pointer (some ⟨g, K * 3, none⟩)
  | 16 => .pointer (some ⟨g, (K + 1) * 3, none⟩)
  | _ => undef
set_option maxHeartbeats 8000000 in
theorem region17K (A : Array Value) (W : World) (g N cap K : Nat) (x y : T3) (hs : A.size = 158) (t5 : A[5]? = some (.slice (some ⟨g, 0, none⟩) N cap)) (t9 : A[9]? = some (.int .i64 ((K : Int) + 1))) (hK : K + 1 < N) (hN : N < 100000)
    (k0 : W.cell? ⟨g, K * 3, none⟩ = some (.int .i64 x.1)) (k1 : W.cell? ⟨g, K * 3 + 1, none⟩ = some (.int .i64 x.2.1)) (k2 : W.cell? ⟨g, K * 3 + 2, none⟩ = some (.int .i64 x.2.2))
    (v0 : W.cell? ⟨g, (K + 1) * 3, none⟩ = some (.int .i64 y.1)) (v1 : W.cell? ⟨g, (K + 1) * 3 + 1, none⟩ = some (.int .i64 y.2.1)) (v2 : W.cell? ⟨g, (K + 1) * 3 + 2, none⟩ = some (.int .i64 y.2.2)) (W1 W2 : World)
    (cf : ∀ i, W.frozen? ⟨g, i, none⟩ = false)
    (e1 : W1 = (((W.setCell ⟨g, K * 3, none⟩ (.int .i64 y.1)).setCell ⟨g, K * 3 + 1, none⟩ (.int .i64 y.2.1)).setCell ⟨g, K * 3 + 2, none⟩ (.int .i64 y.2.2)).drew)
    (e2 : W2 = ((((((W.setCell ⟨g, K * 3, none⟩ (.int .i64 y.1)).setCell ⟨g, K * 3 + 1, none⟩ (.int .i64 y.2.1)).setCell ⟨g, K * 3 + 2, none⟩ (.int .i64 y.2.2)).setCell ⟨g, (K + 1) * 3, none⟩ (.int .i64 x.1)).setCell ⟨g, (K + 1) * 3 + 1, none⟩ (.int .i64 x.2.1)).setCell ⟨g, (K + 1) * 3 + 2, none⟩ (.int .i64 x.2.2)).drew) :
    Code.wp Try.prog ((Try.f3.body.bind (regionAt 17)).getD .skip) (KxPost A W.drew W1 W2 (vs17 g N cap K x y)) ⟨A, []⟩ W := by
  have E1 := hide e1
  have E2 := hide e2
  clear e1 e2
  conv => arg 2; whnf
  refine wp_region_any (by kernel_rfl) (wpAny_inv (fun l a w => a.defers = [] ∧ KxI A W.drew W1 W2 (vs17 g N cap K x y) l a.tmps w) ?_ ?_ _ _ _ _ ?_ ?_)
  · rintro l ⟨T, d⟩ w ⟨hd, hI⟩ i hi
    obtain rfl : d = [] := hd
    have hI : KxI A W.drew W1 W2 (vs17 g N cap K x y) l T w := hI
    have hnd := not_ltA (ready_open hi)
    have hr := hi
    unfold Region.ready at hr
    rw [List.mem_filter] at hr
    obtain ⟨hr1, hr2⟩ := hr
    have hNn : i < 18 := by simpa using hr1
    clear hr1 hi
    have hTs : T.size = 158 := hI.len
    have hK1 : (0 : Int) ≤ (K : Int) + 1 := by omega
    have hK2 : (K : Int) + 1 < (N : Int) := by omega
    have hK3 : (K : Int) < (N : Int) := by omega
    have hKw : IntKind.wrap .i64 (K : Int) = (K : Int) := by rw [IntKind.wrap_i64]; omega
    have u5 : T[5] = .slice (some ⟨g, 0, none⟩) N cap := atA (T := T) (i := 5) ((hI.keep 5 (by decide)).trans t5) (by omega)
    have u9 : T[9] = .int .i64 ((K : Int) + 1) := atA (T := T) (i := 9) ((hI.keep 9 (by decide)).trans t9) (by omega)
    rcases (show i = 0 ∨ i = 1 ∨ i = 2 ∨ i = 3 ∨ i = 4 ∨ i = 5 ∨ i = 6 ∨ i = 7 ∨ i = 8 ∨ i = 9 ∨ i = 10 ∨ i = 11 ∨ i = 12 ∨ i = 13 ∨ i = 14 ∨ i = 15 ∨ i = 16 ∨ i = 17 by omega) with rfl | rfl | rfl | rfl | rfl | rfl | rfl | rfl | rfl | rfl | rfl | rfl | rfl | rfl | rfl | rfl | rfl | rfl
    · simp [Region.binds] at hr2
      refine wpOp_want rfl (by simp [Region.wanted, yielded, hTs]) ?_
      clear hr2
      go_simp
      exact hI.pure 0 (by omega) (by omega)
    · simp [Region.binds] at hr2
      refine wpOp_want rfl (by simp [Region.wanted, yielded, hTs]) ?_
      clear hr2
      go_simp
      exact hI.pure 1 (by omega) (by omega)
    · simp [Region.binds] at hr2
      have y1 := hI.val 1 (by omega) (by omega) (show ltA l 1 from (by (repeat (cases ‹_ ∧ _›)); assumption))
      have u75 : T[75] = .int .i64 ((K : Int) + 1) := atA (T := T) (i := 75) y1 (by omega)
      refine wpOp_want rfl (by simp [Region.wanted, yielded, hTs]) ?_
      clear hr2
      go_simp
      exact hI.pure 2 (by omega) (by omega)
    · simp [Region.binds] at hr2
      refine wpOp_want rfl (by simp [Region.wanted, yielded, hTs]) ?_
      clear hr2
      go_simp
      exact hI.pure 3 (by omega) (by omega)
    · simp [Region.binds] at hr2
      refine wpOp_want rfl (by simp [Region.wanted, yielded, hTs]) ?_
      clear hr2
      go_simp
      exact hI.pure 4 (by omega) (by omega)
    · simp [Region.binds] at hr2
      refine wpOp_want rfl (by simp [Region.wanted, yielded, hTs]) ?_
      clear hr2
      go_simp
      exact hI.pure 5 (by omega) (by omega)
    · simp [Region.binds] at hr2
      refine wpOp_want rfl (by simp [Region.wanted, yielded, hTs]) ?_
      clear hr2
      go_simp
      exact hI.pure 6 (by omega) (by omega)
    · simp [Region.binds] at hr2
      have y5 := hI.val 5 (by omega) (by omega) (show ltA l 5 from (by (repeat (cases ‹_ ∧ _›)); assumption))
      have u79 : T[79] = .slice (some ⟨g, 0, none⟩) N cap := atA (T := T) (i := 79) y5 (by omega)
      have y6 := hI.val 6 (by omega) (by omega) (show ltA l 6 from (by (repeat (cases ‹_ ∧ _›)); assumption))
      have u80 : T[80] = .int .i64 ((K : Int) + 1) := atA (T := T) (i := 80) y6 (by omega)
      refine wpOp_want rfl (by simp [Region.wanted, yielded, hTs]) ?_
      clear hr2
      go_simp
      exact hI.pure 7 (by omega) (by omega)
    · simp [Region.binds] at hr2
      have y7 := hI.val 7 (by omega) (by omega) (show ltA l 7 from (by (repeat (cases ‹_ ∧ _›)); assumption))
      have u81 : T[81] = .pointer (some ⟨g, (K + 1) * 3, none⟩) := atA (T := T) (i := 81) y7 (by omega)
      have hw := hI.w0 (fun h => hnd (hI.o8 h))
      subst hw
      have c0 : W.drew.cell? _ = _ := v0
      have c1 : W.drew.cell? _ = _ := v1
      have c2 : W.drew.cell? _ = _ := v2
      refine wpOp_want rfl (by simp [Region.wanted, yielded, hTs]) ?_
      clear hr2
      go_simp
      exact hI.pure 8 (by omega) (by omega)
    · simp [Region.binds] at hr2
      refine wpOp_want rfl (by simp [Region.wanted, yielded, hTs]) ?_
      clear hr2
      go_simp
      exact hI.pure 9 (by omega) (by omega)
    · simp [Region.binds] at hr2
      refine wpOp_want rfl (by simp [Region.wanted, yielded, hTs]) ?_
      clear hr2
      go_simp
      exact hI.pure 10 (by omega) (by omega)
    · simp [Region.binds] at hr2
      have y10 := hI.val 10 (by omega) (by omega) (show ltA l 10 from (by (repeat (cases ‹_ ∧ _›)); assumption))
      have u84 : T[84] = .int .i64 ((K : Int) + 1) := atA (T := T) (i := 84) y10 (by omega)
      refine wpOp_want rfl (by simp [Region.wanted, yielded, hTs]) ?_
      clear hr2
      go_simp
      exact hI.pure 11 (by omega) (by omega)
    · simp [Region.binds] at hr2
      have y9 := hI.val 9 (by omega) (by omega) (show ltA l 9 from (by (repeat (cases ‹_ ∧ _›)); assumption))
      have u83 : T[83] = .slice (some ⟨g, 0, none⟩) N cap := atA (T := T) (i := 83) y9 (by omega)
      have y11 := hI.val 11 (by omega) (by omega) (show ltA l 11 from (by (repeat (cases ‹_ ∧ _›)); assumption))
      have u85 : T[85] = .int .i64 (K : Int) := atA (T := T) (i := 85) y11 (by omega)
      refine wpOp_want rfl (by simp [Region.wanted, yielded, hTs]) ?_
      clear hr2
      go_simp
      exact hI.pure 12 (by omega) (by omega)
    · simp [Region.binds] at hr2
      have y12 := hI.val 12 (by omega) (by omega) (show ltA l 12 from (by (repeat (cases ‹_ ∧ _›)); assumption))
      have u86 : T[86] = .pointer (some ⟨g, K * 3, none⟩) := atA (T := T) (i := 86) y12 (by omega)
      have hw := hI.w0 (fun h => hnd (hI.o13 h))
      subst hw
      have c0 : W.drew.cell? _ = _ := k0
      have c1 : W.drew.cell? _ = _ := k1
      have c2 : W.drew.cell? _ = _ := k2
      refine wpOp_want rfl (by simp [Region.wanted, yielded, hTs]) ?_
      clear hr2
      go_simp
      exact hI.pure 13 (by omega) (by omega)
    · simp [Region.binds] at hr2
      have y0 := hI.val 0 (by omega) (by omega) (show ltA l 0 from (by (repeat (cases ‹_ ∧ _›)); assumption))
      have u74 : T[74] = .slice (some ⟨g, 0, none⟩) N cap := atA (T := T) (i := 74) y0 (by omega)
      have y2 := hI.val 2 (by omega) (by omega) (show ltA l 2 from (by (repeat (cases ‹_ ∧ _›)); assumption))
      have u76 : T[76] = .int .i64 (K : Int) := atA (T := T) (i := 76) y2 (by omega)
      refine wpOp_want rfl (by simp [Region.wanted, yielded, hTs]) ?_
      clear hr2
      go_simp
      exact hI.pure 14 (by omega) (by omega)
    · simp [Region.binds] at hr2
      have y14 := hI.val 14 (by omega) (by omega) (show ltA l 14 from (by (repeat (cases ‹_ ∧ _›)); assumption))
      have u88 : T[88] = .pointer (some ⟨g, K * 3, none⟩) := atA (T := T) (i := 88) y14 (by omega)
      have y8 := hI.val 8 (by omega) (by omega) (show ltA l 8 from (by (repeat (cases ‹_ ∧ _›)); assumption))
      have u82 : T[82] = .agg (iv3 y) := atA (T := T) (i := 82) y8 (by omega)
      have y13 := hI.val 13 (by omega) (by omega) (show ltA l 13 from (by (repeat (cases ‹_ ∧ _›)); assumption))
      have u87 : T[87] = .agg (iv3 x) := atA (T := T) (i := 87) y13 (by omega)
      have hl8 : ltA l 8 := (by (repeat (cases ‹_ ∧ _›)); assumption)
      have hl13 : ltA l 13 := (by (repeat (cases ‹_ ∧ _›)); assumption)
      have hw := hI.w0 hnd
      subst hw
      have hcf : ∀ i, W.drew.frozen? ⟨g, i, none⟩ = false := cf
      have c0 : W.drew.cell? _ = _ := k0
      have c1 : W.drew.cell? _ = _ := k1
      have c2 : W.drew.cell? _ = _ := k2
      refine wpOp_want rfl (by simp [Region.wanted, yielded, hTs]) ?_
      clear hr2
      go_simp
      rw [← unhide E1]
      exact hI.put1 hl8 hl13 hnd
    · simp [Region.binds] at hr2
      have y3 := hI.val 3 (by omega) (by omega) (show ltA l 3 from (by (repeat (cases ‹_ ∧ _›)); assumption))
      have u77 : T[77] = .slice (some ⟨g, 0, none⟩) N cap := atA (T := T) (i := 77) y3 (by omega)
      have y4 := hI.val 4 (by omega) (by omega) (show ltA l 4 from (by (repeat (cases ‹_ ∧ _›)); assumption))
      have u78 : T[78] = .int .i64 ((K : Int) + 1) := atA (T := T) (i := 78) y4 (by omega)
      refine wpOp_want rfl (by simp [Region.wanted, yielded, hTs]) ?_
      clear hr2
      go_simp
      exact hI.pure 16 (by omega) (by omega)
    · simp [Region.binds] at hr2
      have y16 := hI.val 16 (by omega) (by omega) (show ltA l 16 from (by (repeat (cases ‹_ ∧ _›)); assumption))
      have u89 : T[89] = .pointer (some ⟨g, (K + 1) * 3, none⟩) := atA (T := T) (i := 89) y16 (by omega)
      have y13 := hI.val 13 (by omega) (by omega) (show ltA l 13 from (by (repeat (cases ‹_ ∧ _›)); assumption))
      have u87 : T[87] = .agg (iv3 x) := atA (T := T) (i := 87) y13 (by omega)
      have hl15 : ltA l 15 := (by (repeat (cases ‹_ ∧ _›)); assumption)
      have hw := hI.w1 hl15 hnd
      subst hw
      refine wpOp_want rfl (by simp [Region.wanted, yielded, hTs]) ?_
      clear hr2
      rw [unhide E1]
      go_simp
      rw [← unhide E2]
      have F := hI.put2 hl15 hnd
      rw [unhide E1] at F
      exact F
  · rintro l ⟨T, d⟩ w ⟨hd, hI⟩ hz
    have hI : KxI A W.drew W1 W2 (vs17 g N cap K x y) l T w := hI
    have up : ∀ i, i < 18 → ¬ (l[i]?.getD false = true) → l.getD i true = false := fun i hi hc => by
      have h1 : i < l.size := by rw [hI.sz]; exact hi
      rw [Array.getElem?_eq_getElem h1] at hc
      rw [Array.getD_eq_getD_getElem?, Array.getElem?_eq_getElem h1]
      simpa using hc
    have r0 : l[0]?.getD false = true := Classical.byContradiction fun hc => by
      have hb := up 0 (by omega) hc
      refine absurd (?_ : 0 ∈ Region.ready _ _ l) (by rw [hz]; simp)
      unfold Region.ready
      rw [List.mem_filter]
      exact ⟨by simp, by simp [Region.binds, hb]⟩
    have r1 : l[1]?.getD false = true := Classical.byContradiction fun hc => by
      have hb := up 1 (by omega) hc
      refine absurd (?_ : 1 ∈ Region.ready _ _ l) (by rw [hz]; simp)
      unfold Region.ready
      rw [List.mem_filter]
      exact ⟨by simp, by simp [Region.binds, hb, r0]⟩
    have r2 : l[2]?.getD false = true := Classical.byContradiction fun hc => by
      have hb := up 2 (by omega) hc
      refine absurd (?_ : 2 ∈ Region.ready _ _ l) (by rw [hz]; simp)
      unfold Region.ready
      rw [List.mem_filter]
      exact ⟨by simp, by simp [Region.binds, hb, r0, r1]⟩
    have r3 : l[3]?.getD false = true := Classical.byContradiction fun hc => by
      have hb := up 3 (by omega) hc
      refine absurd (?_ : 3 ∈ Region.ready _ _ l) (by rw [hz]; simp)
      unfold Region.ready
      rw [List.mem_filter]
      exact ⟨by simp, by simp [Region.binds, hb, r0, r1, r2]⟩
    have r4 : l[4]?.getD false = true := Classical.byContradiction fun hc => by
      have hb := up 4 (by omega) hc
      refine absurd (?_ : 4 ∈ Region.ready _ _ l) (by rw [hz]; simp)
      unfold Region.ready
      rw [List.mem_filter]
      exact ⟨by simp, by simp [Region.binds, hb, r0, r1, r2, r3]⟩
    have r5 : l[5]?.getD false = true := Classical.byContradiction fun hc => by
      have hb := up 5 (by omega) hc
      refine absurd (?_ : 5 ∈ Region.ready _ _ l) (by rw [hz]; simp)
      unfold Region.ready
      rw [List.mem_filter]
      exact ⟨by simp, by simp [Region.binds, hb, r0, r1, r2, r3, r4]⟩
    have r6 : l[6]?.getD false = true := Classical.byContradiction fun hc => by
      have hb := up 6 (by omega) hc
      refine absurd (?_ : 6 ∈ Region.ready _ _ l) (by rw [hz]; simp)
      unfold Region.ready
      rw [List.mem_filter]
      exact ⟨by simp, by simp [Region.binds, hb, r0, r1, r2, r3, r4, r5]⟩
    have r7 : l[7]?.getD false = true := Classical.byContradiction fun hc => by
      have hb := up 7 (by omega) hc
      refine absurd (?_ : 7 ∈ Region.ready _ _ l) (by rw [hz]; simp)
      unfold Region.ready
      rw [List.mem_filter]
      exact ⟨by simp, by simp [Region.binds, hb, r0, r1, r2, r3, r4, r5, r6]⟩
    have r8 : l[8]?.getD false = true := Classical.byContradiction fun hc => by
      have hb := up 8 (by omega) hc
      refine absurd (?_ : 8 ∈ Region.ready _ _ l) (by rw [hz]; simp)
      unfold Region.ready
      rw [List.mem_filter]
      exact ⟨by simp, by simp [Region.binds, hb, r0, r1, r2, r3, r4, r5, r6, r7]⟩
    have r9 : l[9]?.getD false = true := Classical.byContradiction fun hc => by
      have hb := up 9 (by omega) hc
      refine absurd (?_ : 9 ∈ Region.ready _ _ l) (by rw [hz]; simp)
      unfold Region.ready
      rw [List.mem_filter]
      exact ⟨by simp, by simp [Region.binds, hb, r0, r1, r2, r3, r4, r5, r6, r7, r8]⟩
    have r10 : l[10]?.getD false = true := Classical.byContradiction fun hc => by
      have hb := up 10 (by omega) hc
      refine absurd (?_ : 10 ∈ Region.ready _ _ l) (by rw [hz]; simp)
      unfold Region.ready
      rw [List.mem_filter]
      exact ⟨by simp, by simp [Region.binds, hb, r0, r1, r2, r3, r4, r5, r6, r7, r8, r9]⟩
    have r11 : l[11]?.getD false = true := Classical.byContradiction fun hc => by
      have hb := up 11 (by omega) hc
      refine absurd (?_ : 11 ∈ Region.ready _ _ l) (by rw [hz]; simp)
      unfold Region.ready
      rw [List.mem_filter]
      exact ⟨by simp, by simp [Region.binds, hb, r0, r1, r2, r3, r4, r5, r6, r7, r8, r9, r10]⟩
    have r12 : l[12]?.getD false = true := Classical.byContradiction fun hc => by
      have hb := up 12 (by omega) hc
      refine absurd (?_ : 12 ∈ Region.ready _ _ l) (by rw [hz]; simp)
      unfold Region.ready
      rw [List.mem_filter]
      exact ⟨by simp, by simp [Region.binds, hb, r0, r1, r2, r3, r4, r5, r6, r7, r8, r9, r10, r11]⟩
    have r13 : l[13]?.getD false = true := Classical.byContradiction fun hc => by
      have hb := up 13 (by omega) hc
      refine absurd (?_ : 13 ∈ Region.ready _ _ l) (by rw [hz]; simp)
      unfold Region.ready
      rw [List.mem_filter]
      exact ⟨by simp, by simp [Region.binds, hb, r0, r1, r2, r3, r4, r5, r6, r7, r8, r9, r10, r11, r12]⟩
    have r14 : l[14]?.getD false = true := Classical.byContradiction fun hc => by
      have hb := up 14 (by omega) hc
      refine absurd (?_ : 14 ∈ Region.ready _ _ l) (by rw [hz]; simp)
      unfold Region.ready
      rw [List.mem_filter]
      exact ⟨by simp, by simp [Region.binds, hb, r0, r1, r2, r3, r4, r5, r6, r7, r8, r9, r10, r11, r12, r13]⟩
    have r15 : l[15]?.getD false = true := Classical.byContradiction fun hc => by
      have hb := up 15 (by omega) hc
      refine absurd (?_ : 15 ∈ Region.ready _ _ l) (by rw [hz]; simp)
      unfold Region.ready
      rw [List.mem_filter]
      exact ⟨by simp, by simp [Region.binds, hb, r0, r1, r2, r3, r4, r5, r6, r7, r8, r9, r10, r11, r12, r13, r14]⟩
    have r16 : l[16]?.getD false = true := Classical.byContradiction fun hc => by
      have hb := up 16 (by omega) hc
      refine absurd (?_ : 16 ∈ Region.ready _ _ l) (by rw [hz]; simp)
      unfold Region.ready
      rw [List.mem_filter]
      exact ⟨by simp, by simp [Region.binds, hb, r0, r1, r2, r3, r4, r5, r6, r7, r8, r9, r10, r11, r12, r13, r14, r15]⟩
    have r17 : l[17]?.getD false = true := Classical.byContradiction fun hc => by
      have hb := up 17 (by omega) hc
      refine absurd (?_ : 17 ∈ Region.ready _ _ l) (by rw [hz]; simp)
      unfold Region.ready
      rw [List.mem_filter]
      exact ⟨by simp, by simp [Region.binds, hb, r0, r1, r2, r3, r4, r5, r6, r7, r8, r9, r10, r11, r12, r13, r14, r15, r16]⟩
    refine ⟨hd, l, hI, fun i hi => ?_⟩
    rcases (show i = 0 ∨ i = 1 ∨ i = 2 ∨ i = 3 ∨ i = 4 ∨ i = 5 ∨ i = 6 ∨ i = 7 ∨ i = 8 ∨ i = 9 ∨ i = 10 ∨ i = 11 ∨ i = 12 ∨ i = 13 ∨ i = 14 ∨ i = 15 ∨ i = 16 ∨ i = 17 by omega) with rfl | rfl | rfl | rfl | rfl | rfl | rfl | rfl | rfl | rfl | rfl | rfl | rfl | rfl | rfl | rfl | rfl | rfl
    · exact r0
    · exact r1
    · exact r2
    · exact r3
    · exact r4
    · exact r5
    · exact r6
    · exact r7
    · exact r8
    · exact r9
    · exact r10
    · exact r11
    · exact r12
    · exact r13
    · exact r14
    · exact r15
    · exact r16
    · exact r17
  · exact Nat.le_refl 18
  · exact ⟨rfl, KxI.start hs⟩

theorem kx_use {P : Program} {c : Code} {Q : Exit → Act → World → Prop} {A : Array Value} {W W0 W1 W2 : World} {vs : Nat → Value} (hs : A.size = 158) (h : ∀ B, B = A → Code.wp P c (KxPost B W W1 W2 vs) ⟨B, []⟩ W0)
    (hq : ∀ (f : Nat → Value), Q .normal ⟨setsL A f 0 ds17, []⟩ W2) : Code.wp P c Q ⟨A, []⟩ W0 := by
  refine Code.wp_mono ?_ (h A rfl)
  intro e a w' hp
  cases e with
  | normal =>
    obtain ⟨hd, l, hI, hall⟩ := hp
    obtain ⟨T, d⟩ := a
    obtain rfl : d = [] := hd
    have hT : T.size = 158 := hI.len
    have e : T = setsL A (fun i => T[ds17.getD i 0]?.getD undef) 0 ds17 := by
      apply Array.ext_getElem?
      intro j
      by_cases hj : j ∈ ds17
      · obtain ⟨i, hi⟩ := List.getElem?_of_mem hj
        have hjM := (by decide : ∀ d ∈ ds17, d < 158) j hj
        rw [setsL_at _ j ds17 0 i A (by decide) hi (by rw [hs]; exact hjM), Nat.zero_add, List.getD_eq_getElem?_getD, hi]
        show _ = some (T[j]?.getD undef)
        rw [Array.getElem?_eq_getElem (by rw [hT]; exact hjM)]
        rfl
      · rw [setsL_not _ j ds17 0 A hj]
        exact hI.keep j hj
    have hw := hI.w2 (hall 17 (by omega))
    subst hw
    have := hq (fun i => T[ds17.getD i 0]?.getD undef)
    rw [← e] at this
    exact this
  | _ => exact hp.elim

end Go.Proofs.Ytjopfpchbakggaa
