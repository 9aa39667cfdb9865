/- The document's Assign: two intervals put into boxes, a region that draws its order. -/
import Derived.Test.YtjopfpchbakggaaCoW
import Derived.Test.YtjopfpchbakggaaGrAx
set_option linter.unusedSimpArgs false
set_option linter.unusedVariables false
set_option maxRecDepth 10000
namespace Go.Proofs.Ytjopfpchbakggaa
open Go.RowKit

abbrev ds31 : List Nat := [113, 114, 115, 116, 117, 118, 119, 120, 121, 122, 123, 15, 16]
abbrev iv3 (x : T3) : Array Value := #[.int .i64 x.1, .int .i64 x.2.1, .int .i64 x.2.2]
/-- What holds behind each set of operations that have come up. -/
structure CxI (A : Array Value) (W : World) (vs : Nat → Value) (x y : T3) (l : Array Bool) (T : Array Value) (w : World) : Prop where
  sz : l.size = 15
  len : T.size = 179
  keep : ∀ j, j ∉ ds31 → T[j]? = A[j]?
  ext : Ext W w
  val : ∀ i d, i < 11 → ds31[i]? = some d → ltA l i → T[d]? = some (vs i)
  o3 : ltA l 13 → ltA l 11
  o4 : ltA l 14 → ltA l 12
  bx : ltA l 11 → ∃ (b : Nat) (c : T3), T[15]? = some (.pointer (some ⟨b, 0, none⟩)) ∧ W.heap.size ≤ b ∧ w.heap[b]? = some (.cells (iv3 c) 51 (0, 0)) ∧ (ltA l 13 → c = x)
  bz : ltA l 12 → ∃ (b : Nat) (c : T3), T[16]? = some (.pointer (some ⟨b, 0, none⟩)) ∧ W.heap.size ≤ b ∧ w.heap[b]? = some (.cells (iv3 c) 51 (0, 0)) ∧ (ltA l 14 → c = y)
  ne : ltA l 11 → ltA l 12 → T[15]? ≠ T[16]?
variable {A : Array Value} {W : World} {vs : Nat → Value} {x y : T3} {l : Array Bool} {T : Array Value} {w : World}
theorem ds31_nd {i j d : Nat} (h : ds31[i]? = some d) (k : ds31[j]? = some d) : i = j := by
  have hn : ds31.Nodup := by decide
  have h1 := List.getElem?_eq_some_iff.1 h
  have h2 := List.getElem?_eq_some_iff.1 k
  exact (List.getElem_inj hn).1 (h1.2.trans h2.2.symm)
theorem CxI.pure (h : CxI A W vs x y l T w) (i d : Nat) (hi : i < 11) (hd : ds31[i]? = some d) : CxI A W vs x y (l.setIfInBounds i true) (T.setIfInBounds d (vs i)) w := by
  have hiz : i < l.size := by rw [h.sz]; omega
  have hm : d ∈ ds31 := List.mem_of_getElem? hd
  have hd5 : d ≠ 15 := fun e => by subst e; have := ds31_nd hd (show ds31[11]? = some 15 from rfl); omega
  have hd6 : d ≠ 16 := fun e => by subst e; have := ds31_nd hd (show ds31[12]? = some 16 from rfl); omega
  have hdM : d < 179 := (by decide : ∀ d ∈ ds31, d < 179) d hm
  have lo : ∀ j, j ≠ i → ltA (l.setIfInBounds i true) j → ltA l j := fun j hj h => ((ltA_set hiz).1 h).resolve_left hj
  have up : ∀ j, ltA l j → ltA (l.setIfInBounds i true) j := fun j h => (ltA_set hiz).2 (Or.inr h)
  refine ⟨by rw [Array.size_setIfInBounds]; exact h.sz, by rw [Array.size_setIfInBounds]; exact h.len, fun j hj => by rw [T_other (fun e => hj (by rw [← e]; exact hm))]; exact h.keep j hj, h.ext, fun k d2 hk hd2 hl => ?_, fun h1 => up _ (h.o3 (lo _ (by omega) h1)), fun h1 => up _ (h.o4 (lo _ (by omega) h1)), fun h1 => ?_, fun h1 => ?_, fun h1 h2 => ?_⟩
  · by_cases e : k = i
    · subst e
      rw [hd] at hd2
      injection hd2 with hd2
      subst hd2
      exact T_self (by rw [h.len]; exact hdM)
    · rw [T_other (fun e2 => e (ds31_nd hd2 (by rw [← e2]; exact hd)))]
      exact h.val k d2 hk hd2 (lo _ e hl)
  · obtain ⟨b, c, q1, q2, q3, q4⟩ := h.bx (lo _ (by omega) h1)
    exact ⟨b, c, by rw [T_other hd5]; exact q1, q2, q3, fun h2 => q4 (lo _ (by omega) h2)⟩
  · obtain ⟨b, c, q1, q2, q3, q4⟩ := h.bz (lo _ (by omega) h1)
    exact ⟨b, c, by rw [T_other hd6]; exact q1, q2, q3, fun h2 => q4 (lo _ (by omega) h2)⟩
  · rw [T_other hd5, T_other hd6]
    exact h.ne (lo _ (by omega) h1) (lo _ (by omega) h2)
theorem CxI.row (h : CxI A W vs x y l T w) {b : Nat} {o : Obj} (q : w.heap[b]? = some o) (o2 : Obj) : (w.alloc o2).heap[b]? = some o := (Ext.alloc w o2).row q
theorem new3 (w : World) : (w.alloc (.cells #[.int .i64 0, .int .i64 0, .int .i64 0] 51)).heap[w.heap.size]? = some (.cells (iv3 (0, 0, 0)) 51 (0, 0)) := Go.heap_alloc_new w _
theorem CxI.al1 (h : CxI A W vs x y l T w) (hn : ¬ ltA l 11) : CxI A W vs x y (l.setIfInBounds 11 true) (T.setIfInBounds 15 (.pointer (some ⟨w.heap.size, 0, none⟩))) (w.alloc (.cells #[.int .i64 0, .int .i64 0, .int .i64 0] 51)) := by
  have hiz : 11 < l.size := by rw [h.sz]; omega
  have lo : ∀ j, j ≠ 11 → ltA (l.setIfInBounds 11 true) j → ltA l j := fun j hj h => ((ltA_set hiz).1 h).resolve_left hj
  have up : ∀ j, ltA l j → ltA (l.setIfInBounds 11 true) j := fun j h => (ltA_set hiz).2 (Or.inr h)
  refine ⟨by rw [Array.size_setIfInBounds]; exact h.sz, by rw [Array.size_setIfInBounds]; exact h.len, fun j hj => by rw [T_other (fun e => hj (by rw [← e]; decide))]; exact h.keep j hj, h.ext.trans (Ext.alloc _ _), fun k d2 hk hd2 hl => ?_, fun h1 => (ltA_set hiz).2 (Or.inl rfl), fun h1 => up _ (h.o4 (lo _ (by omega) h1)), fun h1 => ?_, fun h1 => ?_, fun h1 h2 => ?_⟩
  · rw [T_other (fun e2 => by subst e2; have := ds31_nd hd2 (show ds31[11]? = some 15 from rfl); omega)]
    exact h.val k d2 hk hd2 (lo _ (by omega) hl)
  · exact ⟨w.heap.size, (0, 0, 0), T_self (by rw [h.len]; omega), h.ext.size, new3 w, fun h2 => absurd (h.o3 (lo _ (by omega) h2)) hn⟩
  · obtain ⟨b, c, q1, q2, q3, q4⟩ := h.bz (lo _ (by omega) h1)
    exact ⟨b, c, by rw [T_other (by omega)]; exact q1, q2, h.row q3 _, fun h2 => q4 (lo _ (by omega) h2)⟩
  · obtain ⟨b, c, q1, q2, q3, q4⟩ := h.bz (lo _ (by omega) h2)
    rw [T_self (by rw [h.len]; omega), T_other (by omega), q1]
    intro e
    injection e with e
    injection e with e
    injection e with e
    injection e with e
    have := (Array.getElem?_eq_some_iff.1 q3).1
    omega
theorem CxI.al2 (h : CxI A W vs x y l T w) (hn : ¬ ltA l 12) : CxI A W vs x y (l.setIfInBounds 12 true) (T.setIfInBounds 16 (.pointer (some ⟨w.heap.size, 0, none⟩))) (w.alloc (.cells #[.int .i64 0, .int .i64 0, .int .i64 0] 51)) := by
  have hiz : 12 < l.size := by rw [h.sz]; omega
  have lo : ∀ j, j ≠ 12 → ltA (l.setIfInBounds 12 true) j → ltA l j := fun j hj h => ((ltA_set hiz).1 h).resolve_left hj
  have up : ∀ j, ltA l j → ltA (l.setIfInBounds 12 true) j := fun j h => (ltA_set hiz).2 (Or.inr h)
  refine ⟨by rw [Array.size_setIfInBounds]; exact h.sz, by rw [Array.size_setIfInBounds]; exact h.len, fun j hj => by rw [T_other (fun e => hj (by rw [← e]; decide))]; exact h.keep j hj, h.ext.trans (Ext.alloc _ _), fun k d2 hk hd2 hl => ?_, fun h1 => up _ (h.o3 (lo _ (by omega) h1)), fun h1 => (ltA_set hiz).2 (Or.inl rfl), fun h1 => ?_, fun h1 => ?_, fun h1 h2 => ?_⟩
  · rw [T_other (fun e2 => by subst e2; have := ds31_nd hd2 (show ds31[12]? = some 16 from rfl); omega)]
    exact h.val k d2 hk hd2 (lo _ (by omega) hl)
  · obtain ⟨b, c, q1, q2, q3, q4⟩ := h.bx (lo _ (by omega) h1)
    exact ⟨b, c, by rw [T_other (by omega)]; exact q1, q2, h.row q3 _, fun h2 => q4 (lo _ (by omega) h2)⟩
  · exact ⟨w.heap.size, (0, 0, 0), T_self (by rw [h.len]; omega), h.ext.size, new3 w, fun h2 => absurd (h.o4 (lo _ (by omega) h2)) hn⟩
  · obtain ⟨b, c, q1, q2, q3, q4⟩ := h.bx (lo _ (by omega) h1)
    rw [T_other (by omega), T_self (by rw [h.len]; omega), q1]
    intro e
    injection e with e
    injection e with e
    injection e with e
    injection e with e
    have := (Array.getElem?_eq_some_iff.1 q3).1
    omega
abbrev st3 (w : World) (b : Nat) (c : T3) : World := ((w.setCell ⟨b, 0, none⟩ (.int .i64 c.1)).setCell ⟨b, 1, none⟩ (.int .i64 c.2.1)).setCell ⟨b, 2, none⟩ (.int .i64 c.2.2)
theorem st3_self {b : Nat} {c : T3} (d : T3) (q : w.heap[b]? = some (.cells (iv3 c) 51 (0, 0))) : (st3 w b d).heap[b]? = some (.cells (iv3 d) 51 (0, 0)) := by
  have := k_row_set (k_row_set (k_row_set q 0 (.int .i64 d.1)) 1 (.int .i64 d.2.1)) 2 (.int .i64 d.2.2)
  exact this
theorem st3_other {b g : Nat} {o : Obj} (d : T3) (hne : g ≠ b) (q : w.heap[g]? = some o) : (st3 w b d).heap[g]? = some o :=
  k_row_other (k_row_other (k_row_other q hne _ _) hne _ _) hne _ _
theorem CxI.put1 (h : CxI A W vs x y l T w) {b : Nat} {c : T3} (q1 : T[15]? = some (.pointer (some ⟨b, 0, none⟩))) (q2 : W.heap.size ≤ b) (q3 : w.heap[b]? = some (.cells (iv3 c) 51 (0, 0))) (h1 : ltA l 11) (hn : ¬ ltA l 13) : CxI A W vs x y (l.setIfInBounds 13 true) T (st3 w b x) := by
  have hiz : 13 < l.size := by rw [h.sz]; omega
  have lo : ∀ j, j ≠ 13 → ltA (l.setIfInBounds 13 true) j → ltA l j := fun j hj h => ((ltA_set hiz).1 h).resolve_left hj
  have up : ∀ j, ltA l j → ltA (l.setIfInBounds 13 true) j := fun j h => (ltA_set hiz).2 (Or.inr h)
  refine ⟨by rw [Array.size_setIfInBounds]; exact h.sz, h.len, h.keep, ((h.ext.set (p := ⟨b, 0, none⟩) q2 _).set (p := ⟨b, 1, none⟩) q2 _).set (p := ⟨b, 2, none⟩) q2 _, fun k d2 hk hd2 hl => h.val k d2 hk hd2 (lo _ (by omega) hl), fun _ => up _ h1, fun h2 => up _ (h.o4 (lo _ (by omega) h2)), fun _ => ⟨b, x, q1, q2, st3_self x q3, fun _ => rfl⟩, fun h2 => ?_, fun h2 h3 => h.ne (lo _ (by omega) h2) (lo _ (by omega) h3)⟩
  have h2' := lo _ (by omega) h2
  obtain ⟨b', c', p1, p2, p3, p4⟩ := h.bz h2'
  refine ⟨b', c', p1, p2, st3_other x (fun e => ?_) p3, fun h3 => p4 (lo _ (by omega) h3)⟩
  subst e
  exact h.ne h1 h2' (q1.trans p1.symm)
theorem CxI.put2 (h : CxI A W vs x y l T w) {b : Nat} {c : T3} (q1 : T[16]? = some (.pointer (some ⟨b, 0, none⟩))) (q2 : W.heap.size ≤ b) (q3 : w.heap[b]? = some (.cells (iv3 c) 51 (0, 0))) (h1 : ltA l 12) (hn : ¬ ltA l 14) : CxI A W vs x y (l.setIfInBounds 14 true) T (st3 w b y) := by
  have hiz : 14 < l.size := by rw [h.sz]; omega
  have lo : ∀ j, j ≠ 14 → ltA (l.setIfInBounds 14 true) j → ltA l j := fun j hj h => ((ltA_set hiz).1 h).resolve_left hj
  have up : ∀ j, ltA l j → ltA (l.setIfInBounds 14 true) j := fun j h => (ltA_set hiz).2 (Or.inr h)
  refine ⟨by rw [Array.size_setIfInBounds]; exact h.sz, h.len, h.keep, ((h.ext.set (p := ⟨b, 0, none⟩) q2 _).set (p := ⟨b, 1, none⟩) q2 _).set (p := ⟨b, 2, none⟩) q2 _, fun k d2 hk hd2 hl => h.val k d2 hk hd2 (lo _ (by omega) hl), fun h2 => up _ (h.o3 (lo _ (by omega) h2)), fun _ => up _ h1, fun h2 => ?_, fun _ => ⟨b, y, q1, q2, st3_self y q3, fun _ => rfl⟩, fun h2 h3 => h.ne (lo _ (by omega) h2) (lo _ (by omega) h3)⟩
  have h2' := lo _ (by omega) h2
  obtain ⟨b', c', p1, p2, p3, p4⟩ := h.bx h2'
  refine ⟨b', c', p1, p2, st3_other y (fun e => ?_) p3, fun h3 => p4 (lo _ (by omega) h3)⟩
  subst e
  exact h.ne h2' h1 (p1.trans q1.symm)
theorem CxI.start (hA : A.size = 179) (he : Ext W w) : CxI A W vs x y (Array.replicate 15 false) A w := by
  have no : ∀ i, ¬ ltA (Array.replicate 15 false) i := fun i h => by
    unfold ltA at h
    rw [Array.getElem?_replicate] at h
    split at h <;> cases h
  exact ⟨by simp, hA, fun _ _ => rfl, he, fun i _ _ _ h => absurd h (no i), fun h => absurd h (no _), fun h => absurd h (no _), fun h => absurd h (no _), fun h => absurd h (no _), fun h => absurd h (no _)⟩
/-- Behind all of them. -/
def CxPost (A : Array Value) (W : World) (vs : Nat → Value) (x y : T3) : Exit → Act → World → Prop
  | .normal, a, w => a.defers = [] ∧ ∃ l, CxI A W vs x y l a.tmps w ∧ ∀ i, i < 15 → ltA l i
  | _, _, _ => False

def vs31 (lb lo n cap H m p k v : Nat) (x y : T3) : Nat → Value
  | 0 => .slice (some ⟨lb, lo, none⟩) n cap
  | 1 => .slice (some ⟨H, 0, none⟩) m m
  | 2 => .int .i64 (p : Int)
  | 3 => .pointer (some ⟨H, p, none⟩)
  | 4 => .int .i64 (k : Int)
  | 5 => .pointer (some ⟨lb, lo + k * 3, none⟩)
  | 6 => .agg (iv3 x)
  | 7 => .slice (some ⟨lb, lo, none⟩) n cap
  | 8 => .int .i64 (v : Int)
  | 9 => .pointer (some ⟨lb, lo + v * 3, none⟩)
  | 10 => .agg (iv3 y)
  | _ => undef
set_option maxHeartbeats 8000000 in
theorem region31 (A : Array Value) (W : World) (lb lo n cap H m p k v : Nat) (x y : T3) (hs : A.size = 179) (t0 : A[0]? = some (.slice (some ⟨lb, lo, none⟩) n cap)) (t6 : A[6]? = some (.slice (some ⟨H, 0, none⟩) m m)) (t13 : A[13]? = some (.int .i64 (v : Int))) (t14 : A[14]? = some (.int .i64 (p : Int)))
    (hp : p < m) (hk : k < n) (hv : v < n) (g0 : W.cell? ⟨H, p, none⟩ = some (.int .i64 (k : Int)))
    (k0 : W.cell? ⟨lb, lo + k * 3, none⟩ = some (.int .i64 x.1)) (k1 : W.cell? ⟨lb, lo + k * 3 + 1, none⟩ = some (.int .i64 x.2.1)) (k2 : W.cell? ⟨lb, lo + k * 3 + 2, none⟩ = some (.int .i64 x.2.2))
    (v0 : W.cell? ⟨lb, lo + v * 3, none⟩ = some (.int .i64 y.1)) (v1 : W.cell? ⟨lb, lo + v * 3 + 1, none⟩ = some (.int .i64 y.2.1)) (v2 : W.cell? ⟨lb, lo + v * 3 + 2, none⟩ = some (.int .i64 y.2.2)) :
    Code.wp Try.prog ((Try.f10.body.bind (regionAt 31)).getD .skip) (CxPost A W (vs31 lb lo n cap H m p k v x y) x y) ⟨A, []⟩ W := by
  conv => arg 2; whnf
  refine wp_region_any (by kernel_rfl) (wpAny_inv (fun l a w => a.defers = [] ∧ CxI A W (vs31 lb lo n cap H m p k v x y) x y l a.tmps w) ?_ ?_ _ _ _ _ ?_ ?_)
  · rintro l ⟨T, d⟩ w ⟨hd, hI⟩ i hi
    obtain rfl : d = [] := hd
    have hI : CxI A W (vs31 lb lo n cap H m p k v x y) x y l T w := hI
    have hnd := not_ltA (ready_open hi)
    have hr := hi
    unfold Region.ready at hr
    rw [List.mem_filter] at hr
    obtain ⟨hr1, hr2⟩ := hr
    have hN : i < 15 := by simpa using hr1
    clear hr1 hi
    have hTs : T.size = 179 := hI.len
    have hp2 : (p : Int) < (m : Int) := by omega
    have hk2 : (k : Int) < (n : Int) := by omega
    have hv2 : (v : Int) < (n : Int) := by omega
    have u0 : T[0] = .slice (some ⟨lb, lo, none⟩) n cap := atA (T := T) (i := 0) ((hI.keep 0 (by decide)).trans t0) (by omega)
    have u6 : T[6] = .slice (some ⟨H, 0, none⟩) m m := atA (T := T) (i := 6) ((hI.keep 6 (by decide)).trans t6) (by omega)
    have u13 : T[13] = .int .i64 (v : Int) := atA (T := T) (i := 13) ((hI.keep 13 (by decide)).trans t13) (by omega)
    have u14 : T[14] = .int .i64 (p : Int) := atA (T := T) (i := 14) ((hI.keep 14 (by decide)).trans t14) (by omega)
    rcases (show i = 0 ∨ i = 1 ∨ i = 2 ∨ i = 3 ∨ i = 4 ∨ i = 5 ∨ i = 6 ∨ i = 7 ∨ i = 8 ∨ i = 9 ∨ i = 10 ∨ i = 11 ∨ i = 12 ∨ i = 13 ∨ i = 14 by omega) with rfl | rfl | rfl | rfl | rfl | rfl | rfl | rfl | rfl | rfl | rfl | rfl | rfl | rfl | rfl
    · simp [Region.binds] at hr2
      refine wpOp_want rfl (by simp [Region.wanted, yielded, hTs]) ?_
      clear hr2
      go_simp
      exact hI.pure 0 113 (by omega) rfl
    · simp [Region.binds] at hr2
      refine wpOp_want rfl (by simp [Region.wanted, yielded, hTs]) ?_
      clear hr2
      go_simp
      exact hI.pure 1 114 (by omega) rfl
    · simp [Region.binds] at hr2
      refine wpOp_want rfl (by simp [Region.wanted, yielded, hTs]) ?_
      clear hr2
      go_simp
      exact hI.pure 2 115 (by omega) rfl
    · simp [Region.binds] at hr2
      have y1 := hI.val 1 114 (by omega) rfl (show ltA l 1 from (by first | exact hr2.2 | exact hr2.2.1 | exact hr2.2.2 | exact hr2.2.2.1 | exact hr2.2.2.2 | exact hr2.2.2.2.1 | exact hr2.2.2.2.2 | exact hr2.1.1 | exact hr2.1.2 | simp_all))
      have u114 : T[114] = .slice (some ⟨H, 0, none⟩) m m := atA (T := T) (i := 114) y1 (by omega)
      have y2 := hI.val 2 115 (by omega) rfl (show ltA l 2 from (by first | exact hr2.2 | exact hr2.2.1 | exact hr2.2.2 | exact hr2.2.2.1 | exact hr2.2.2.2 | exact hr2.2.2.2.1 | exact hr2.2.2.2.2 | exact hr2.1.1 | exact hr2.1.2 | simp_all))
      have u115 : T[115] = .int .i64 (p : Int) := atA (T := T) (i := 115) y2 (by omega)
      refine wpOp_want rfl (by simp [Region.wanted, yielded, hTs]) ?_
      clear hr2
      go_simp
      exact hI.pure 3 116 (by omega) rfl
    · simp [Region.binds] at hr2
      have y3 := hI.val 3 116 (by omega) rfl (show ltA l 3 from (by first | exact hr2.2 | exact hr2.2.1 | exact hr2.2.2 | exact hr2.2.2.1 | exact hr2.2.2.2 | exact hr2.2.2.2.1 | exact hr2.2.2.2.2 | exact hr2.1.1 | exact hr2.1.2 | simp_all))
      have u116 : T[116] = .pointer (some ⟨H, p, none⟩) := atA (T := T) (i := 116) y3 (by omega)
      have c0 := hI.ext.cell g0
      refine wpOp_want rfl (by simp [Region.wanted, yielded, hTs]) ?_
      clear hr2
      go_simp
      exact hI.pure 4 117 (by omega) rfl
    · simp [Region.binds] at hr2
      have y0 := hI.val 0 113 (by omega) rfl (show ltA l 0 from (by first | exact hr2.2 | exact hr2.2.1 | exact hr2.2.2 | exact hr2.2.2.1 | exact hr2.2.2.2 | exact hr2.2.2.2.1 | exact hr2.2.2.2.2 | exact hr2.1.1 | exact hr2.1.2 | simp_all))
      have u113 : T[113] = .slice (some ⟨lb, lo, none⟩) n cap := atA (T := T) (i := 113) y0 (by omega)
      have y4 := hI.val 4 117 (by omega) rfl (show ltA l 4 from (by first | exact hr2.2 | exact hr2.2.1 | exact hr2.2.2 | exact hr2.2.2.1 | exact hr2.2.2.2 | exact hr2.2.2.2.1 | exact hr2.2.2.2.2 | exact hr2.1.1 | exact hr2.1.2 | simp_all))
      have u117 : T[117] = .int .i64 (k : Int) := atA (T := T) (i := 117) y4 (by omega)
      refine wpOp_want rfl (by simp [Region.wanted, yielded, hTs]) ?_
      clear hr2
      go_simp
      exact hI.pure 5 118 (by omega) rfl
    · simp [Region.binds] at hr2
      have y5 := hI.val 5 118 (by omega) rfl (show ltA l 5 from (by first | exact hr2.2 | exact hr2.2.1 | exact hr2.2.2 | exact hr2.2.2.1 | exact hr2.2.2.2 | exact hr2.2.2.2.1 | exact hr2.2.2.2.2 | exact hr2.1.1 | exact hr2.1.2 | simp_all))
      have u118 : T[118] = .pointer (some ⟨lb, lo + k * 3, none⟩) := atA (T := T) (i := 118) y5 (by omega)
      have c0 := hI.ext.cell k0
      have c1 := hI.ext.cell k1
      have c2 := hI.ext.cell k2
      refine wpOp_want rfl (by simp [Region.wanted, yielded, hTs]) ?_
      clear hr2
      go_simp
      exact hI.pure 6 119 (by omega) rfl
    · simp [Region.binds] at hr2
      refine wpOp_want rfl (by simp [Region.wanted, yielded, hTs]) ?_
      clear hr2
      go_simp
      exact hI.pure 7 120 (by omega) rfl
    · simp [Region.binds] at hr2
      refine wpOp_want rfl (by simp [Region.wanted, yielded, hTs]) ?_
      clear hr2
      go_simp
      exact hI.pure 8 121 (by omega) rfl
    · simp [Region.binds] at hr2
      have y7 := hI.val 7 120 (by omega) rfl (show ltA l 7 from (by first | exact hr2.2 | exact hr2.2.1 | exact hr2.2.2 | exact hr2.2.2.1 | exact hr2.2.2.2 | exact hr2.2.2.2.1 | exact hr2.2.2.2.2 | exact hr2.1.1 | exact hr2.1.2 | simp_all))
      have u120 : T[120] = .slice (some ⟨lb, lo, none⟩) n cap := atA (T := T) (i := 120) y7 (by omega)
      have y8 := hI.val 8 121 (by omega) rfl (show ltA l 8 from (by first | exact hr2.2 | exact hr2.2.1 | exact hr2.2.2 | exact hr2.2.2.1 | exact hr2.2.2.2 | exact hr2.2.2.2.1 | exact hr2.2.2.2.2 | exact hr2.1.1 | exact hr2.1.2 | simp_all))
      have u121 : T[121] = .int .i64 (v : Int) := atA (T := T) (i := 121) y8 (by omega)
      refine wpOp_want rfl (by simp [Region.wanted, yielded, hTs]) ?_
      clear hr2
      go_simp
      exact hI.pure 9 122 (by omega) rfl
    · simp [Region.binds] at hr2
      have y9 := hI.val 9 122 (by omega) rfl (show ltA l 9 from (by first | exact hr2.2 | exact hr2.2.1 | exact hr2.2.2 | exact hr2.2.2.1 | exact hr2.2.2.2 | exact hr2.2.2.2.1 | exact hr2.2.2.2.2 | exact hr2.1.1 | exact hr2.1.2 | simp_all))
      have u122 : T[122] = .pointer (some ⟨lb, lo + v * 3, none⟩) := atA (T := T) (i := 122) y9 (by omega)
      have c0 := hI.ext.cell v0
      have c1 := hI.ext.cell v1
      have c2 := hI.ext.cell v2
      refine wpOp_want rfl (by simp [Region.wanted, yielded, hTs]) ?_
      clear hr2
      go_simp
      exact hI.pure 10 123 (by omega) rfl
    · simp [Region.binds] at hr2
      refine wpOp_want rfl (by simp [Region.wanted, yielded, hTs]) ?_
      clear hr2
      go_simp
      exact hI.al1 hnd
    · simp [Region.binds] at hr2
      refine wpOp_want rfl (by simp [Region.wanted, yielded, hTs]) ?_
      clear hr2
      go_simp
      exact hI.al2 hnd
    · simp [Region.binds] at hr2
      have hl11 : ltA l 11 := (by first | exact hr2.2 | exact hr2.2.1 | exact hr2.2.2 | exact hr2.2.2.1 | exact hr2.2.2.2 | exact hr2.2.2.2.1 | exact hr2.2.2.2.2 | exact hr2.1.1 | exact hr2.1.2 | simp_all)
      have y6 := hI.val 6 119 (by omega) rfl (show ltA l 6 from (by first | exact hr2.2 | exact hr2.2.1 | exact hr2.2.2 | exact hr2.2.2.1 | exact hr2.2.2.2 | exact hr2.2.2.2.1 | exact hr2.2.2.2.2 | exact hr2.1.1 | exact hr2.1.2 | simp_all))
      have u119 : T[119] = .agg (iv3 x) := atA (T := T) (i := 119) y6 (by omega)
      obtain ⟨b, c, q1, q2, q3, _⟩ := hI.bx hl11
      have u15 : T[15] = .pointer (some ⟨b, 0, none⟩) := atA (T := T) (i := 15) q1 (by omega)
      have c0 := k_rowC q3 0 rfl
      have c1 := k_rowC q3 1 rfl
      have c2 := k_rowC q3 2 rfl
      have cf := k_rowF q3
      refine wpOp_want rfl (by simp [Region.wanted, yielded, hTs]) ?_
      clear hr2
      go_simp
      exact hI.put1 q1 q2 q3 hl11 hnd
    · simp [Region.binds] at hr2
      have hl12 : ltA l 12 := (by first | exact hr2.2 | exact hr2.2.1 | exact hr2.2.2 | exact hr2.2.2.1 | exact hr2.2.2.2 | exact hr2.2.2.2.1 | exact hr2.2.2.2.2 | exact hr2.1.1 | exact hr2.1.2 | simp_all)
      have y10 := hI.val 10 123 (by omega) rfl (show ltA l 10 from (by first | exact hr2.2 | exact hr2.2.1 | exact hr2.2.2 | exact hr2.2.2.1 | exact hr2.2.2.2 | exact hr2.2.2.2.1 | exact hr2.2.2.2.2 | exact hr2.1.1 | exact hr2.1.2 | simp_all))
      have u123 : T[123] = .agg (iv3 y) := atA (T := T) (i := 123) y10 (by omega)
      obtain ⟨b, c, q1, q2, q3, _⟩ := hI.bz hl12
      have u16 : T[16] = .pointer (some ⟨b, 0, none⟩) := atA (T := T) (i := 16) q1 (by omega)
      have c0 := k_rowC q3 0 rfl
      have c1 := k_rowC q3 1 rfl
      have c2 := k_rowC q3 2 rfl
      have cf := k_rowF q3
      refine wpOp_want rfl (by simp [Region.wanted, yielded, hTs]) ?_
      clear hr2
      go_simp
      exact hI.put2 q1 q2 q3 hl12 hnd
  · rintro l ⟨T, d⟩ w ⟨hd, hI⟩ hz
    have hI : CxI A W (vs31 lb lo n cap H m p k v x y) x y l T w := hI
    have up : ∀ i, i < 15 → ¬ (l[i]?.getD false = true) → l.getD i true = false := fun i hi hc => by
      have h1 : i < l.size := by rw [hI.sz]; exact hi
      rw [Array.getElem?_eq_getElem h1] at hc
      rw [Array.getD_eq_getD_getElem?, Array.getElem?_eq_getElem h1]
      simpa using hc
    have r0 : l[0]?.getD false = true := Classical.byContradiction fun hc => by
      have hb := up 0 (by omega) hc
      refine absurd (?_ : 0 ∈ Region.ready _ _ l) (by rw [hz]; simp)
      unfold Region.ready
      rw [List.mem_filter]
      exact ⟨by simp, by simp [Region.binds, hb]⟩
    have r1 : l[1]?.getD false = true := Classical.byContradiction fun hc => by
      have hb := up 1 (by omega) hc
      refine absurd (?_ : 1 ∈ Region.ready _ _ l) (by rw [hz]; simp)
      unfold Region.ready
      rw [List.mem_filter]
      exact ⟨by simp, by simp [Region.binds, hb, r0]⟩
    have r2 : l[2]?.getD false = true := Classical.byContradiction fun hc => by
      have hb := up 2 (by omega) hc
      refine absurd (?_ : 2 ∈ Region.ready _ _ l) (by rw [hz]; simp)
      unfold Region.ready
      rw [List.mem_filter]
      exact ⟨by simp, by simp [Region.binds, hb, r0, r1]⟩
    have r3 : l[3]?.getD false = true := Classical.byContradiction fun hc => by
      have hb := up 3 (by omega) hc
      refine absurd (?_ : 3 ∈ Region.ready _ _ l) (by rw [hz]; simp)
      unfold Region.ready
      rw [List.mem_filter]
      exact ⟨by simp, by simp [Region.binds, hb, r0, r1, r2]⟩
    have r4 : l[4]?.getD false = true := Classical.byContradiction fun hc => by
      have hb := up 4 (by omega) hc
      refine absurd (?_ : 4 ∈ Region.ready _ _ l) (by rw [hz]; simp)
      unfold Region.ready
      rw [List.mem_filter]
      exact ⟨by simp, by simp [Region.binds, hb, r0, r1, r2, r3]⟩
    have r5 : l[5]?.getD false = true := Classical.byContradiction fun hc => by
      have hb := up 5 (by omega) hc
      refine absurd (?_ : 5 ∈ Region.ready _ _ l) (by rw [hz]; simp)
      unfold Region.ready
      rw [List.mem_filter]
      exact ⟨by simp, by simp [Region.binds, hb, r0, r1, r2, r3, r4]⟩
    have r6 : l[6]?.getD false = true := Classical.byContradiction fun hc => by
      have hb := up 6 (by omega) hc
      refine absurd (?_ : 6 ∈ Region.ready _ _ l) (by rw [hz]; simp)
      unfold Region.ready
      rw [List.mem_filter]
      exact ⟨by simp, by simp [Region.binds, hb, r0, r1, r2, r3, r4, r5]⟩
    have r7 : l[7]?.getD false = true := Classical.byContradiction fun hc => by
      have hb := up 7 (by omega) hc
      refine absurd (?_ : 7 ∈ Region.ready _ _ l) (by rw [hz]; simp)
      unfold Region.ready
      rw [List.mem_filter]
      exact ⟨by simp, by simp [Region.binds, hb, r0, r1, r2, r3, r4, r5, r6]⟩
    have r8 : l[8]?.getD false = true := Classical.byContradiction fun hc => by
      have hb := up 8 (by omega) hc
      refine absurd (?_ : 8 ∈ Region.ready _ _ l) (by rw [hz]; simp)
      unfold Region.ready
      rw [List.mem_filter]
      exact ⟨by simp, by simp [Region.binds, hb, r0, r1, r2, r3, r4, r5, r6, r7]⟩
    have r9 : l[9]?.getD false = true := Classical.byContradiction fun hc => by
      have hb := up 9 (by omega) hc
      refine absurd (?_ : 9 ∈ Region.ready _ _ l) (by rw [hz]; simp)
      unfold Region.ready
      rw [List.mem_filter]
      exact ⟨by simp, by simp [Region.binds, hb, r0, r1, r2, r3, r4, r5, r6, r7, r8]⟩
    have r10 : l[10]?.getD false = true := Classical.byContradiction fun hc => by
      have hb := up 10 (by omega) hc
      refine absurd (?_ : 10 ∈ Region.ready _ _ l) (by rw [hz]; simp)
      unfold Region.ready
      rw [List.mem_filter]
      exact ⟨by simp, by simp [Region.binds, hb, r0, r1, r2, r3, r4, r5, r6, r7, r8, r9]⟩
    have r11 : l[11]?.getD false = true := Classical.byContradiction fun hc => by
      have hb := up 11 (by omega) hc
      refine absurd (?_ : 11 ∈ Region.ready _ _ l) (by rw [hz]; simp)
      unfold Region.ready
      rw [List.mem_filter]
      exact ⟨by simp, by simp [Region.binds, hb, r0, r1, r2, r3, r4, r5, r6, r7, r8, r9, r10]⟩
    have r12 : l[12]?.getD false = true := Classical.byContradiction fun hc => by
      have hb := up 12 (by omega) hc
      refine absurd (?_ : 12 ∈ Region.ready _ _ l) (by rw [hz]; simp)
      unfold Region.ready
      rw [List.mem_filter]
      exact ⟨by simp, by simp [Region.binds, hb, r0, r1, r2, r3, r4, r5, r6, r7, r8, r9, r10, r11]⟩
    have r13 : l[13]?.getD false = true := Classical.byContradiction fun hc => by
      have hb := up 13 (by omega) hc
      refine absurd (?_ : 13 ∈ Region.ready _ _ l) (by rw [hz]; simp)
      unfold Region.ready
      rw [List.mem_filter]
      exact ⟨by simp, by simp [Region.binds, hb, r0, r1, r2, r3, r4, r5, r6, r7, r8, r9, r10, r11, r12]⟩
    have r14 : l[14]?.getD false = true := Classical.byContradiction fun hc => by
      have hb := up 14 (by omega) hc
      refine absurd (?_ : 14 ∈ Region.ready _ _ l) (by rw [hz]; simp)
      unfold Region.ready
      rw [List.mem_filter]
      exact ⟨by simp, by simp [Region.binds, hb, r0, r1, r2, r3, r4, r5, r6, r7, r8, r9, r10, r11, r12, r13]⟩
    refine ⟨hd, l, hI, fun i hi => ?_⟩
    rcases (show i = 0 ∨ i = 1 ∨ i = 2 ∨ i = 3 ∨ i = 4 ∨ i = 5 ∨ i = 6 ∨ i = 7 ∨ i = 8 ∨ i = 9 ∨ i = 10 ∨ i = 11 ∨ i = 12 ∨ i = 13 ∨ i = 14 by omega) with rfl | rfl | rfl | rfl | rfl | rfl | rfl | rfl | rfl | rfl | rfl | rfl | rfl | rfl | rfl
    · exact r0
    · exact r1
    · exact r2
    · exact r3
    · exact r4
    · exact r5
    · exact r6
    · exact r7
    · exact r8
    · exact r9
    · exact r10
    · exact r11
    · exact r12
    · exact r13
    · exact r14
  · exact Nat.le_refl 15
  · exact ⟨rfl, CxI.start hs (Ext.drew (Ext.refl _))⟩

theorem cx_use {P : Program} {c : Code} {Q : Exit → Act → World → Prop} {A : Array Value} {W : World} {vs : Nat → Value} {x y : T3} (hs : A.size = 179) (h : ∀ B, B = A → Code.wp P c (CxPost B W vs x y) ⟨B, []⟩ W)
    (hq : ∀ (f : Nat → Value) (w' : World) (b b' : Nat), Ext W w' → f 11 = .pointer (some ⟨b, 0, none⟩) → f 12 = .pointer (some ⟨b', 0, none⟩) → w'.heap[b]? = some (.cells (iv3 x) 51 (0, 0)) → w'.heap[b']? = some (.cells (iv3 y) 51 (0, 0)) → Q .normal ⟨setsL A f 0 ds31, []⟩ w') : Code.wp P c Q ⟨A, []⟩ W := by
  refine Code.wp_mono ?_ (h A rfl)
  intro e a w' hp
  cases e with
  | normal =>
    obtain ⟨hd, l, hI, hall⟩ := hp
    obtain ⟨T, d⟩ := a
    obtain rfl : d = [] := hd
    have hT : T.size = 179 := hI.len
    have e : T = setsL A (fun i => T[ds31.getD i 0]?.getD undef) 0 ds31 := by
      apply Array.ext_getElem?
      intro j
      by_cases hj : j ∈ ds31
      · obtain ⟨i, hi⟩ := List.getElem?_of_mem hj
        have hjM := (by decide : ∀ d ∈ ds31, d < 179) j hj
        rw [setsL_at _ j ds31 0 i A (by decide) hi (by rw [hs]; exact hjM), Nat.zero_add, List.getD_eq_getElem?_getD, hi]
        show _ = some (T[j]?.getD undef)
        rw [Array.getElem?_eq_getElem (by rw [hT]; exact hjM)]
        rfl
      · rw [setsL_not _ j ds31 0 A hj]
        exact hI.keep j hj
    obtain ⟨b, c, q1, q2, q3, q4⟩ := hI.bx (hall 11 (by omega))
    obtain ⟨b', c', p1, p2, p3, p4⟩ := hI.bz (hall 12 (by omega))
    rw [q4 (hall 13 (by omega))] at q3
    rw [p4 (hall 14 (by omega))] at p3
    have := hq (fun i => T[ds31.getD i 0]?.getD undef) w' b b' hI.ext (by show T[15]?.getD undef = _; rw [q1]; rfl) (by show T[16]?.getD undef = _; rw [p1]; rfl) q3 p3
    rw [← e] at this
    exact this
  | _ => exact hp.elim

end Go.Proofs.Ytjopfpchbakggaa
