/- What the program makes of values: the value that one is taken for, a copy, a text, a list. -/
import Derived.Test.YtggpehmljpanjaaValTell
set_option linter.unusedSimpArgs false
set_option maxRecDepth 10000
namespace Go.Proofs.Ytggpehmljpanjaa
open Go.RowKit

theorem frozen_box (w : World) (cs : Array Value) (t : TypeId) (i : Nat) : (w.alloc (.cells cs t)).frozen? ⟨w.heap.size, i, none⟩ = false := by
  simp only [World.frozen?, Go.heap_alloc_new w]
  simp
theorem Ext.boxF {w w' : World} {cs : Array Value} {t : TypeId} (h : Ext (w.alloc (.cells cs t)) w') (i : Nat) : w'.frozen? ⟨w.heap.size, i, none⟩ = false := by
  rw [Below.frozen h (by simp)]; exact frozen_box w cs t i
theorem Ext.set {w w' : World} (h : Ext w w') {a : Addr} (ha : w.heap.size ≤ a.block) (u : Value) : Ext w (w'.setCell a u) := Below.setCell h ha u
theorem heap_alloc_size (w : World) (o : Obj) : (w.alloc o).heap.size = w.heap.size + 1 := by simp

/-- Nothing, as a value. -/
def nilP : PV := .mk 0 0 0 0 ⟨#[]⟩ []
abbrev nilV : Value := .agg #[.int .i64 0, .int .i64 0, .complex .f64 0 0, .string ⟨#[]⟩, .slice none 0 0]

theorem rep_nil (w : World) (F : Nat → Prop) : Rep w F nilP nilV := by
  rw [nilP, Rep]
  exact ⟨none, 0, rfl, ⟨by decide, by decide, by decide, by decide, by decide, by decide, by decide, by decide, by decide⟩, by simp [RepL]⟩

theorem ret_val {a b : Value} (h : a = b) : Ending.returned a = .returned b := by rw [h]

theorem top_any (p : PV) (v : Value) (w : World) (hr : Rep w (In w) p v) :
    Calls Try.prog 37 #[v] w fun e w' => e = .returned (.int .i64 (sz p 0)) ∧ Ext w w' := by
  have hc := fun w' (h : Ext w w') => size_any p v 0 w' (by decide) (hr.ext h)
  cases p with
  | mk k n re im s l =>
  rw [Rep] at hr
  obtain ⟨a, cap, rfl, hb, hl⟩ := hr
  have C := hide hc
  clear hc hb hl
  go_enter Try.func37, Try.ntmps37
  go_wp2_with (go_at_call 40; refine Calls.mono (unhide C _ (Ext.alloc _ _)) ?_; rintro e w' ⟨rfl, hw⟩)
  go_ret
  exact ⟨rfl, (Ext.alloc _ _).trans hw⟩

/-- A value as the language has them. -/
def okv (p : PV) : Bool := decide (sz p 0 ≤ 1000) && wfv p

theorem okv_any (p : PV) (v : Value) (w : World) (hr : Rep w (In w) p v) :
    Calls Try.prog 34 #[v] w fun e w' => e = .returned (.bool (okv p)) ∧ Ext w w' := by
  have hc := fun w' (h : Ext w w') => top_any p v w' (hr.ext h)
  have hf := fun w' (h : Ext w w') => formed_any p v w' (hr.ext h)
  obtain ⟨m, hm⟩ : ∃ m, m = sz p 0 := ⟨_, rfl⟩
  have hm1 : m ≤ 1001 := by rw [hm]; exact sz_le _ _
  have hq : okv p = (decide (m ≤ 1000) && wfv p) := by rw [hm]; rfl
  rw [← hm] at hc
  rw [hq]
  clear hm hq
  cases p with
  | mk k n re im s l =>
  rw [Rep] at hr
  obtain ⟨a, cap, rfl, hb, hl⟩ := hr
  have C := hide hc
  have K := hide hf
  clear hc hb hl hf
  by_cases hle : m ≤ 1000
  all_goals
    go_enter Try.func34, Try.ntmps34
    go_wp2_with (first | (go_at_call 37; refine Calls.mono (unhide C _ (Ext.alloc _ _)) ?_; rintro e w1 ⟨rfl, hw1⟩; have hx0 := hw1.box 0 rfl; have hx1 := hw1.box 1 rfl; have hx2 := hw1.box 2 rfl; have hx3 := hw1.box 3 rfl; have hx4 := hw1.box 4 rfl) | (go_at_call 38; refine Calls.mono (unhide K _ ((Ext.alloc _ _).trans hw1)) ?_; rintro e w2 ⟨rfl, hw2⟩))
    go_ret
  · exact ⟨ret_bool (by simp [hle]), ((Ext.alloc _ _).trans hw1).trans hw2⟩
  · exact ⟨ret_bool (by simp [hle]), (Ext.alloc _ _).trans hw1⟩

/-- The value that every other call takes it for. -/
def tk (p : PV) : PV := if okv p then p else nilP

/-- What is true: no nothing, no nought, not empty. -/
def truev (p : PV) : Bool := decide (¬ (p.n = 0 ∧ (FloatKind.f64.format.order p.re 0 = some Ordering.eq ∧ FloatKind.f64.format.order p.im 0 = some Ordering.eq) ∧ p.s.toList = [] ∧ p.l.length = 0))

end Go.Proofs.Ytggpehmljpanjaa
