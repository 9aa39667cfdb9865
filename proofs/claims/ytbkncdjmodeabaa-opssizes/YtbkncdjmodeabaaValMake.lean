/- What the program makes of values: the value that one is taken for, a copy, a text, a list. -/
import Derived.Test.YtbkncdjmodeabaaValTell
set_option linter.unusedSimpArgs false
set_option maxRecDepth 10000
namespace Go.Proofs.Ytbkncdjmodeabaa
open Go.RowKit

theorem frozen_box (w : World) (cs : Array Value) (t : TypeId) (i : Nat) : (w.alloc (.cells cs t)).frozen? ⟨w.heap.size, i, none⟩ = false := by
  simp only [World.frozen?, Go.heap_alloc_new w]
  simp
theorem Ext.boxF {w w' : World} {cs : Array Value} {t : TypeId} (h : Ext (w.alloc (.cells cs t)) w') (i : Nat) : w'.frozen? ⟨w.heap.size, i, none⟩ = false := by
  rw [Below.frozen h (by simp)]; exact frozen_box w cs t i
theorem Ext.set {w w' : World} (h : Ext w w') {a : Addr} (ha : w.heap.size ≤ a.block) (u : Value) : Ext w (w'.setCell a u) := Below.setCell h ha u
theorem heap_alloc_size (w : World) (o : Obj) : (w.alloc o).heap.size = w.heap.size + 1 := by simp

/-- Nothing, as a value. -/
def nilP : PV := .mk 0 0 0 0 ⟨#[]⟩ []
abbrev nilV : Value := .agg #[.int .i64 0, .int .i64 0, .complex .f64 0 0, .string ⟨#[]⟩, .slice none 0 0]

theorem rep_nil (w : World) (F : Nat → Prop) : Rep w F nilP nilV := by
  rw [nilP, Rep]
  exact ⟨none, 0, rfl, ⟨by decide, by decide, by decide, by decide, by decide, by decide, by decide, by decide, by decide⟩, by simp [RepL]⟩

theorem ret_val {a b : Value} (h : a = b) : Ending.returned a = .returned b := by rw [h]

theorem nil_any (w : World) : Calls Try.prog 17 #[] w fun e w' => e = .returned nilV ∧ Ext w w' := by
  go_enter Try.func17, Try.ntmps17
  go_wp2_with fail
  go_returns
  exact ⟨rfl, Ext.alloc _ _⟩

theorem int_any (n : Int) (w : World) : Calls Try.prog 40 #[.int .i64 n] w fun e w' => e = .returned (.agg #[.int .i64 1, .int .i64 n, .complex .f64 0 0, .string ⟨#[]⟩, .slice none 0 0]) ∧ Ext w w' := by
  go_enter Try.func40, Try.ntmps40
  go_wp2_with fail
  go_returns
  exact ⟨rfl, Ext.alloc _ _⟩

theorem top_any (p : PV) (v : Value) (w : World) (hr : Rep w (In w) p v) :
    Calls Try.prog 61 #[v] w fun e w' => e = .returned (.int .i64 (sz p 0)) ∧ Ext w w' := by
  have hc := fun w' (h : Ext w w') => size_any p v 0 w' (by decide) (hr.ext h)
  cases p with
  | mk k n re im s l =>
  rw [Rep] at hr
  obtain ⟨a, cap, rfl, hb, hl⟩ := hr
  have C := hide hc
  clear hc hb hl
  go_enter Try.func61, Try.ntmps61
  go_wp2_with (go_at_call 77; refine Calls.mono (unhide C _ (Ext.alloc _ _)) ?_; rintro e w' ⟨rfl, hw⟩)
  go_ret
  exact ⟨rfl, (Ext.alloc _ _).trans hw⟩

/-- A value as the language has them. -/
def okv (p : PV) : Bool := decide (sz p 0 ≤ 1000) && wfv p

theorem okv_any (p : PV) (v : Value) (w : World) (hr : Rep w (In w) p v) :
    Calls Try.prog 32 #[v] w fun e w' => e = .returned (.bool (okv p)) ∧ Ext w w' := by
  have hc := fun w' (h : Ext w w') => top_any p v w' (hr.ext h)
  have hf := fun w' (h : Ext w w') => formed_any p v w' (hr.ext h)
  obtain ⟨m, hm⟩ : ∃ m, m = sz p 0 := ⟨_, rfl⟩
  have hm1 : m ≤ 1001 := by rw [hm]; exact sz_le _ _
  have hq : okv p = (decide (m ≤ 1000) && wfv p) := by rw [hm]; rfl
  rw [← hm] at hc
  rw [hq]
  clear hm hq
  cases p with
  | mk k n re im s l =>
  rw [Rep] at hr
  obtain ⟨a, cap, rfl, hb, hl⟩ := hr
  have C := hide hc
  have K := hide hf
  clear hc hb hl hf
  by_cases hle : m ≤ 1000
  all_goals
    go_enter Try.func32, Try.ntmps32
    go_wp2_with (first | (go_at_call 61; refine Calls.mono (unhide C _ (Ext.alloc _ _)) ?_; rintro e w1 ⟨rfl, hw1⟩; have hx0 := hw1.box 0 rfl; have hx1 := hw1.box 1 rfl; have hx2 := hw1.box 2 rfl; have hx3 := hw1.box 3 rfl; have hx4 := hw1.box 4 rfl) | (go_at_call 62; refine Calls.mono (unhide K _ ((Ext.alloc _ _).trans hw1)) ?_; rintro e w2 ⟨rfl, hw2⟩))
    go_ret
  · exact ⟨ret_bool (by simp [hle]), ((Ext.alloc _ _).trans hw1).trans hw2⟩
  · exact ⟨ret_bool (by simp [hle]), (Ext.alloc _ _).trans hw1⟩

/-- The value that every other call takes it for. -/
def tk (p : PV) : PV := if okv p then p else nilP

theorem taken_val (p : PV) (v : Value) (w : World) (hr : Rep w (In w) p v) :
    Calls Try.prog 67 #[v] w fun e w' => e = .returned (if okv p then v else nilV) ∧ Ext w w' := by
  have hc := fun w' (h : Ext w w') => okv_any p v w' (hr.ext h)
  cases hO : okv p
  · rw [if_neg (by decide)]
    rw [hO] at hc
    clear hO
    cases p with
    | mk k n re im s l =>
    rw [Rep] at hr
    obtain ⟨a, cap, rfl, hb, hl⟩ := hr
    have C := hide hc
    clear hc hb hl
    go_enter Try.func67, Try.ntmps67
    go_wp2_with (first | (go_at_call 32; refine Calls.mono (unhide C _ ((Ext.alloc _ _).trans (Ext.alloc _ _))) ?_; rintro e w1 ⟨rfl, hw1⟩) | (go_at_call 17; refine Calls.mono (nil_any _) ?_; rintro e w2 ⟨rfl, hw2⟩; have hw3 := hw1.trans hw2; have hx0 := hw3.box 0 rfl; have hx1 := hw3.box 1 rfl; have hx2 := hw3.box 2 rfl; have hx3 := hw3.box 3 rfl; have hx4 := hw3.box 4 rfl; have hf := hw3.boxF; simp only [heap_alloc_size] at hx0 hx1 hx2 hx3 hx4 hf))
    refine bodyPost_ret (v := nilV) (by simp [results, Try.results67, go_sem, hx0, hx1, hx2, hx3, hx4]) rfl ⟨rfl, ?_⟩
    have hE := ((Ext.alloc w _).trans (Ext.alloc _ _)).trans hw3
    exact ((((hE.set (by simp) _).set (by simp) _).set (by simp) _).set (by simp) _).set (by simp) _
  · rw [if_pos rfl]
    rw [hO] at hc
    clear hO
    cases p with
    | mk k n re im s l =>
    rw [Rep] at hr
    obtain ⟨a, cap, rfl, hb, hl⟩ := hr
    have C := hide hc
    clear hc hb hl
    go_enter Try.func67, Try.ntmps67
    go_wp2_with (go_at_call 32; refine Calls.mono (unhide C _ ((Ext.alloc _ _).trans (Ext.alloc _ _))) ?_; rintro e w1 ⟨rfl, hw1⟩; have hx0 := hw1.box 0 rfl; have hx1 := hw1.box 1 rfl; have hx2 := hw1.box 2 rfl; have hx3 := hw1.box 3 rfl; have hx4 := hw1.box 4 rfl; have hf := hw1.boxF; have hy := (Ext.alloc _ _).trans hw1; have hy0 := hy.box 0 rfl; have hy1 := hy.box 1 rfl; have hy2 := hy.box 2 rfl; have hy3 := hy.box 3 rfl; have hy4 := hy.box 4 rfl; simp only [heap_alloc_size] at hx0 hx1 hx2 hx3 hx4 hf)
    have hE := (Ext.alloc w _).trans hy
    have hE := ((((hE.set (a := ⟨w.heap.size + 1, 0, none⟩) (by simp) (.int .i64 k)).set (a := ⟨w.heap.size + 1, 1, none⟩) (by simp) (.int .i64 n)).set (a := ⟨w.heap.size + 1, 2, none⟩) (by simp) (.complex .f64 re im)).set (a := ⟨w.heap.size + 1, 3, none⟩) (by simp) (.string s)).set (a := ⟨w.heap.size + 1, 4, none⟩) (by simp) (.slice a l.length cap)
    exact bodyPost_ret (v := .agg #[.int .i64 k, .int .i64 n, .complex .f64 re im, .string s, .slice a l.length cap]) (by simp [results, Try.results67, go_sem, hx0, hx1, hx2, hx3, hx4]) rfl ⟨rfl, hE⟩

theorem taken_any (p : PV) (v : Value) (w : World) (hr : Rep w (In w) p v) :
    Calls Try.prog 67 #[v] w fun e w' => ∃ v', e = .returned v' ∧ Rep w' (In w') (tk p) v' ∧ Ext w w' := by
  refine (taken_val p v w hr).mono ?_
  rintro e w' ⟨rfl, hw⟩
  refine ⟨_, rfl, ?_, hw⟩
  unfold tk
  cases okv p
  · exact rep_nil _ _
  · exact hr.ext hw

/-- What is true: no nothing, no nought, not empty. -/
def truev (p : PV) : Bool := decide (¬ (p.n = 0 ∧ (FloatKind.f64.format.order p.re 0 = some Ordering.eq ∧ FloatKind.f64.format.order p.im 0 = some Ordering.eq) ∧ p.s.toList = [] ∧ p.l.length = 0))

theorem truth_any (p : PV) (v : Value) (w : World) (hr : Rep w (In w) p v) :
    Calls Try.prog 64 #[v] w fun e w' => e = .returned (.bool (truev (tk p))) ∧ Ext w w' := by
  have hc := fun w' (h : Ext w w') => taken_any p v w' (hr.ext h)
  obtain ⟨u, hu⟩ : ∃ u, u = truev (tk p) := ⟨_, rfl⟩
  rw [← hu]
  obtain ⟨q, hq⟩ : ∃ q, q = tk p := ⟨_, rfl⟩
  rw [← hq] at hc hu
  cases q with
  | mk k' n' re' im' s' l' =>
  have U := hide hu
  clear hu
  clear hq
  cases p with
  | mk k n re im s l =>
  rw [Rep] at hr
  obtain ⟨a, cap, rfl, hb, hl⟩ := hr
  have C := hide hc
  clear hc hb hl
  have hd : ¬ n' = 0 ∨ (n' = 0 ∧ ¬ FloatKind.f64.format.order re' 0 = some Ordering.eq) ∨ (n' = 0 ∧ FloatKind.f64.format.order re' 0 = some Ordering.eq ∧ ¬ FloatKind.f64.format.order im' 0 = some Ordering.eq) ∨
      (n' = 0 ∧ (FloatKind.f64.format.order re' 0 = some Ordering.eq ∧ FloatKind.f64.format.order im' 0 = some Ordering.eq) ∧ ¬ s'.toList = []) ∨
      (n' = 0 ∧ (FloatKind.f64.format.order re' 0 = some Ordering.eq ∧ FloatKind.f64.format.order im' 0 = some Ordering.eq) ∧ s'.toList = [] ∧ ¬ l'.length = 0) ∨
      (n' = 0 ∧ (FloatKind.f64.format.order re' 0 = some Ordering.eq ∧ FloatKind.f64.format.order im' 0 = some Ordering.eq) ∧ s'.toList = [] ∧ l'.length = 0) := by
    by_cases h1 : n' = 0 <;> by_cases h2 : FloatKind.f64.format.order re' 0 = some Ordering.eq <;> by_cases h5 : FloatKind.f64.format.order im' 0 = some Ordering.eq <;> by_cases h3 : s'.toList = [] <;> by_cases h4 : l'.length = 0 <;> simp [h1, h2, h3, h4, h5]
  have hu : u = decide (¬ (n' = 0 ∧ (FloatKind.f64.format.order re' 0 = some Ordering.eq ∧ FloatKind.f64.format.order im' 0 = some Ordering.eq) ∧ s'.toList = [] ∧ l'.length = 0)) := unhide U
  have U := hide hu
  clear hu
  rcases hd with h1 | ⟨h1, h2⟩ | ⟨h1, h2, h5⟩ | ⟨h1, h2, h3⟩ | ⟨h1, h2, h3, h4⟩ | ⟨h1, h2, h3, h4⟩
  all_goals
    go_enter Try.func64, Try.ntmps64
    go_wp2_with (go_at_call 67; refine Calls.mono (unhide C _ (Ext.alloc _ _)) ?_; rintro e w1 ⟨v', rfl, hr', hw1⟩; rw [Rep] at hr'; obtain ⟨a', cap', rfl, -, -⟩ := hr'; have hx0 := hw1.box 0 rfl; have hx1 := hw1.box 1 rfl; have hx2 := hw1.box 2 rfl; have hx3 := hw1.box 3 rfl; have hx4 := hw1.box 4 rfl; have hf := hw1.boxF)
    go_ret
    refine ⟨ret_bool ?_, ((((((Ext.alloc _ _).trans hw1).set (by simp) _).set (by simp) _).set (by simp) _).set (by simp) _).set (by simp) _⟩
    rw [unhide U]
    simp [*]

end Go.Proofs.Ytbkncdjmodeabaa
