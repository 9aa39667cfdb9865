/- What the law holds awake: a graph of four points. -/
import Derived.Test.YtpfjafjpijmckaaGrLp
set_option linter.unusedSimpArgs false
set_option linter.unusedVariables false
set_option maxRecDepth 10000
namespace Go.Proofs.Ytpfjafjpijmckaa
open Go.RowKit

def g4 : List (List Int) := [[1, 2], [3], [3], [0]]
theorem g4_doms : gDoms g4 50 = some [none, some 0, some 0, some 0] := by kernel_rfl
theorem g4_loops : gLoops g4 50 = some [⟨0, [0, 1, 2, 3], none⟩] := by kernel_rfl
theorem g4_walk : ∀ st, gWalk g4 50 = some st → st.met.length ≤ 1000000 := fun st h => by have := (gWalk_len h).1; omega
theorem g4_few : Few g4 := ⟨by decide, by decide⟩
theorem g4_pred : ∀ l ∈ gPreds g4, l.length ≤ 4 := by decide

abbrev w4 (w : World) : World := ((((w.alloc (.cells #[.int .i64 1, .int .i64 2] 3)).alloc (.cells #[.int .i64 3] 3)).alloc (.cells #[.int .i64 3] 3)).alloc (.cells #[.int .i64 0] 3)).alloc (.cells #[.slice (some ⟨w.heap.size, 0, none⟩) 2 2, .slice (some ⟨w.heap.size + 1, 0, none⟩) 1 1, .slice (some ⟨w.heap.size + 1 + 1, 0, none⟩) 1 1, .slice (some ⟨w.heap.size + 1 + 1 + 1, 0, none⟩) 1 1] 22)
theorem w4_rep (w : World) : RepG (w4 w) (In (w4 w)) (some ⟨w.heap.size + 1 + 1 + 1 + 1, 0, none⟩) g4 := by
  have s1 : (w.alloc (.cells #[.int .i64 1, .int .i64 2] 3)).heap.size = w.heap.size + 1 := sz1 _ _
  have s2 : ((w.alloc (.cells #[.int .i64 1, .int .i64 2] 3)).alloc (.cells #[.int .i64 3] 3)).heap.size = w.heap.size + 1 + 1 := by rw [sz1, s1]
  have s3 : (((w.alloc (.cells #[.int .i64 1, .int .i64 2] 3)).alloc (.cells #[.int .i64 3] 3)).alloc (.cells #[.int .i64 3] 3)).heap.size = w.heap.size + 1 + 1 + 1 := by rw [sz1, s2]
  have s4 : ((((w.alloc (.cells #[.int .i64 1, .int .i64 2] 3)).alloc (.cells #[.int .i64 3] 3)).alloc (.cells #[.int .i64 3] 3)).alloc (.cells #[.int .i64 0] 3)).heap.size = w.heap.size + 1 + 1 + 1 + 1 := by rw [sz1, s3]
  have s5 : (w4 w).heap.size = w.heap.size + 1 + 1 + 1 + 1 + 1 := by unfold w4; rw [sz1, s4]
  have r1 : Row (w4 w) w.heap.size 3 [.int .i64 1, .int .i64 2] := ((((Row.new w [.int .i64 1, .int .i64 2] 3).on (Ext.alloc _ _)).on (Ext.alloc _ _)).on (Ext.alloc _ _)).on (Ext.alloc _ _)
  have r2 : Row (w4 w) (w.heap.size + 1) 3 [.int .i64 3] := by
    have := (((Row.new (w.alloc (.cells #[.int .i64 1, .int .i64 2] 3)) [.int .i64 3] 3).on (Ext.alloc _ (.cells #[.int .i64 3] 3))).on (Ext.alloc _ (.cells #[.int .i64 0] 3))).on (Ext.alloc _ (.cells #[.slice (some ⟨w.heap.size, 0, none⟩) 2 2, .slice (some ⟨w.heap.size + 1, 0, none⟩) 1 1, .slice (some ⟨w.heap.size + 1 + 1, 0, none⟩) 1 1, .slice (some ⟨w.heap.size + 1 + 1 + 1, 0, none⟩) 1 1] 22))
    rw [s1] at this
    exact this
  have r3 : Row (w4 w) (w.heap.size + 1 + 1) 3 [.int .i64 3] := by
    have := ((Row.new ((w.alloc (.cells #[.int .i64 1, .int .i64 2] 3)).alloc (.cells #[.int .i64 3] 3)) [.int .i64 3] 3).on (Ext.alloc _ (.cells #[.int .i64 0] 3))).on (Ext.alloc _ (.cells #[.slice (some ⟨w.heap.size, 0, none⟩) 2 2, .slice (some ⟨w.heap.size + 1, 0, none⟩) 1 1, .slice (some ⟨w.heap.size + 1 + 1, 0, none⟩) 1 1, .slice (some ⟨w.heap.size + 1 + 1 + 1, 0, none⟩) 1 1] 22))
    rw [s2] at this
    exact this
  have r4 : Row (w4 w) (w.heap.size + 1 + 1 + 1) 3 [.int .i64 0] := by
    have := (Row.new (((w.alloc (.cells #[.int .i64 1, .int .i64 2] 3)).alloc (.cells #[.int .i64 3] 3)).alloc (.cells #[.int .i64 3] 3)) [.int .i64 0] 3).on (Ext.alloc _ (.cells #[.slice (some ⟨w.heap.size, 0, none⟩) 2 2, .slice (some ⟨w.heap.size + 1, 0, none⟩) 1 1, .slice (some ⟨w.heap.size + 1 + 1, 0, none⟩) 1 1, .slice (some ⟨w.heap.size + 1 + 1 + 1, 0, none⟩) 1 1] 22))
    rw [s3] at this
    exact this
  have r5 : Row (w4 w) (w.heap.size + 1 + 1 + 1 + 1) 22 [.slice (some ⟨w.heap.size, 0, none⟩) 2 2, .slice (some ⟨w.heap.size + 1, 0, none⟩) 1 1, .slice (some ⟨w.heap.size + 1 + 1, 0, none⟩) 1 1, .slice (some ⟨w.heap.size + 1 + 1 + 1, 0, none⟩) 1 1] := by
    have := Row.new ((((w.alloc (.cells #[.int .i64 1, .int .i64 2] 3)).alloc (.cells #[.int .i64 3] 3)).alloc (.cells #[.int .i64 3] 3)).alloc (.cells #[.int .i64 0] 3)) [.slice (some ⟨w.heap.size, 0, none⟩) 2 2, .slice (some ⟨w.heap.size + 1, 0, none⟩) 1 1, .slice (some ⟨w.heap.size + 1 + 1, 0, none⟩) 1 1, .slice (some ⟨w.heap.size + 1 + 1 + 1, 0, none⟩) 1 1] 22
    rw [s4] at this
    exact this
  have rI : ∀ (b : Nat) (l : List Int), Row (w4 w) b 3 (zs l) → RepI (w4 w) (In (w4 w)) (some ⟨b, 0, none⟩) l := fun b l h => Or.inr ⟨b, 0, rfl, k_lt h, fun j x hx => by rw [Nat.zero_add]; exact h.cell j (by simp [zs, hx])⟩
  refine Or.inr ⟨_, 0, rfl, k_lt r5, fun j l hl => ?_⟩
  rw [Nat.zero_add]
  have hj : j < 4 := (List.getElem?_eq_some_iff.1 hl).1
  rcases (show j = 0 ∨ j = 1 ∨ j = 2 ∨ j = 3 by omega) with rfl | rfl | rfl | rfl
  · obtain rfl : [1, 2] = l := Option.some.inj hl
    exact ⟨_, 2, r5.cell 0 rfl, rI _ _ r1⟩
  · obtain rfl : [3] = l := Option.some.inj hl
    exact ⟨_, 1, r5.cell 1 rfl, rI _ _ r2⟩
  · obtain rfl : [3] = l := Option.some.inj hl
    exact ⟨_, 1, r5.cell 2 rfl, rI _ _ r3⟩
  · obtain rfl : [0] = l := Option.some.inj hl
    exact ⟨_, 1, r5.cell 3 rfl, rI _ _ r4⟩
theorem w4_ext (w : World) : Ext w (w4 w) := ((((Ext.alloc _ _).trans (Ext.alloc _ _)).trans (Ext.alloc _ _)).trans (Ext.alloc _ _)).trans (Ext.alloc _ _)

set_option maxHeartbeats 4000000 in
theorem awake_w (w : World) : Calls Try.prog 15 #[] w fun e w' => e = .returned (.bool true) ∧ Ext w w' := by
  have H1 := hide (doms_w _ 4 g4 (w4 w) 50 _ (w4_rep w) g4_few (by omega) g4_walk g4_doms)
  have H2 := hide (fun W => loops_w _ 4 g4 (w4 W) 50 4 _ (w4_rep W) g4_few (by omega) g4_pred (by omega) (by decide) g4_loops)
  have HX := hide w4_ext
  go_enter Try.func15, Try.ntmps15
  go_wp2_with (first
    | (go_at_call 9; refine Calls.mono (unhide H1) ?_; rintro e w1 ⟨b, rfl, b1, r1, x1⟩; have X1 := hide ((unhide HX w).trans x1); have q0 := r1.cell 0 rfl; have q1 := r1.cell 1 rfl; have q3 := r1.cell 3 rfl; have QX := hide (fun (W : World) (h : Ext w1 W) => (show W.cell? ⟨b, 0, none⟩ = some (.int .i64 (-1)) ∧ W.cell? ⟨b, 1, none⟩ = some (.int .i64 0) ∧ W.cell? ⟨b, 3, none⟩ = some (.int .i64 0) from ⟨h.cell q0, h.cell q1, h.cell q3⟩)); clear b1 r1 x1 q0 q1 q3)
    | (go_at_call 12; refine Calls.mono (unhide H2 w1) ?_; rintro e w2 ⟨wz, pb, pl, ads, la, lc, rfl, x2, s2⟩; obtain ⟨gl, a, rfl, hlc, ha, k0, k1, k2, kf⟩ := s2.at (i := 0) rfl; have X2 := hide ((unhide HX w1).trans (x2.trans s2.ext)); obtain ⟨q0, q1, q3⟩ := unhide QX w2 (unhide X2); have k0 : w2.cell? ⟨gl, 0, none⟩ = some (.int .i64 0) := k0; have k1 : w2.cell? ⟨gl, 1, none⟩ = some (.slice a.1 4 a.2) := k1; have k2 : w2.cell? ⟨gl, 2, none⟩ = some (.int .i64 (-1)) := k2; have hlc : 1 ≤ lc := hlc; clear x2 s2 ha kf))
  go_ret
  exact ⟨rfl, (unhide X1).trans (unhide X2)⟩

end Go.Proofs.Ytpfjafjpijmckaa
