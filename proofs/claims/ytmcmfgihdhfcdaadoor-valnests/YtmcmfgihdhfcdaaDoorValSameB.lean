/- Same of two values that are one. -/
import Derived.Test.YtmcmfgihdhfcdaaDoorValSame
set_option linter.unusedSimpArgs false
set_option maxRecDepth 10000
namespace Go.Proofs.YtmcmfgihdhfcdaaDoor
open Go.RowKit

set_option maxHeartbeats 4000000 in
theorem same_self (p : PV) (hp : EqSelf p) (ho : okv p = true) (v v' : Value) (w : World) (hr : Rep w (In w) p v) (hr' : Rep w (In w) p v') :
    Calls Tryd.prog 16 #[v, v'] w fun e w' => e = .returned (.bool true) ∧ Ext w w' := by
  have CT := hide (fun W (h : Ext w W) => taken_val p v W (hr.ext h))
  have CT' := hide (fun W (h : Ext w W) => taken_val p v' W (hr'.ext h))
  have CE := hide (fun W (h : Ext w W) => hp v v' W (hr.ext h) (hr'.ext h))
  rw [ho] at CT CT'
  simp only [if_true] at CT CT'
  clear hp ho
  cases p with
  | mk k n re im s l =>
  rw [Rep] at hr hr'
  obtain ⟨a, cap, rfl, -, -⟩ := hr
  obtain ⟨a', cap', rfl, -, -⟩ := hr'
  have DR : Hd (Ext w ((w.alloc (.cells #[.int .i64 k, .int .i64 n, .complex .f64 re im, .string s, .slice a l.length cap] 25)).alloc (.cells #[.int .i64 k, .int .i64 n, .complex .f64 re im, .string s, .slice a' l.length cap'] 25)).drew) := Ext.drew ((Ext.alloc _ _).trans (Ext.alloc _ _))
  have YR : Hd (Ext ((w.alloc (.cells #[.int .i64 k, .int .i64 n, .complex .f64 re im, .string s, .slice a l.length cap] 25)).alloc (.cells #[.int .i64 k, .int .i64 n, .complex .f64 re im, .string s, .slice a' l.length cap'] 25)) ((w.alloc (.cells #[.int .i64 k, .int .i64 n, .complex .f64 re im, .string s, .slice a l.length cap] 25)).alloc (.cells #[.int .i64 k, .int .i64 n, .complex .f64 re im, .string s, .slice a' l.length cap'] 25)).drew) := Ext.drew (Ext.refl _)
  go_enter Tryd.func16, Tryd.ntmps16
  go_wp2_with fail
  go_region_law (first
    | (refine step_call_one rfl 20 (.tmp 5) 25 rfl _ (by simp [Act.eval, Act.put]) (enterTaken _ _) (Calls.mono (unhide CT _ (unhide X1)) ?_); rintro e w2 ⟨rfl, hw⟩; have y := (unhide Y1).trans hw; have p0 := ((Ext.alloc _ _).trans y).box 0 rfl; have p1 := ((Ext.alloc _ _).trans y).box 1 rfl; have p2 := ((Ext.alloc _ _).trans y).box 2 rfl; have p3 := ((Ext.alloc _ _).trans y).box 3 rfl; have p4 := ((Ext.alloc _ _).trans y).box 4 rfl; have q0 := y.box 0 rfl; have q1 := y.box 1 rfl; have q2 := y.box 2 rfl; have q3 := y.box 3 rfl; have q4 := y.box 4 rfl; simp only [heap_alloc_size] at q0 q1 q2 q3 q4; have X2 := hide ((unhide X1).trans hw); have Y2 := hide y; clear hw y; refine ⟨_, rfl, ?_⟩)
    | (refine step_call_one rfl 20 (.tmp 5) 25 rfl _ (by simp [Act.eval, Act.put]) (enterTaken _ _) (Calls.mono (unhide CT _ (unhide DR)) ?_); rintro e w1 ⟨rfl, hw⟩; have y := (unhide YR).trans hw; have p0 := ((Ext.alloc _ _).trans y).box 0 rfl; have p1 := ((Ext.alloc _ _).trans y).box 1 rfl; have p2 := ((Ext.alloc _ _).trans y).box 2 rfl; have p3 := ((Ext.alloc _ _).trans y).box 3 rfl; have p4 := ((Ext.alloc _ _).trans y).box 4 rfl; have q0 := y.box 0 rfl; have q1 := y.box 1 rfl; have q2 := y.box 2 rfl; have q3 := y.box 3 rfl; have q4 := y.box 4 rfl; simp only [heap_alloc_size] at q0 q1 q2 q3 q4; have X1 := hide ((unhide DR).trans hw); have Y1 := hide y; clear hw y; refine ⟨_, rfl, ?_⟩)
    | (refine step_call_one rfl 20 (.tmp 7) 25 rfl _ (by simp [Act.eval, Act.put]) (enterTaken _ _) (Calls.mono (unhide CT' _ (unhide X1)) ?_); rintro e w2 ⟨rfl, hw⟩; have y := (unhide Y1).trans hw; have p0 := ((Ext.alloc _ _).trans y).box 0 rfl; have p1 := ((Ext.alloc _ _).trans y).box 1 rfl; have p2 := ((Ext.alloc _ _).trans y).box 2 rfl; have p3 := ((Ext.alloc _ _).trans y).box 3 rfl; have p4 := ((Ext.alloc _ _).trans y).box 4 rfl; have q0 := y.box 0 rfl; have q1 := y.box 1 rfl; have q2 := y.box 2 rfl; have q3 := y.box 3 rfl; have q4 := y.box 4 rfl; simp only [heap_alloc_size] at q0 q1 q2 q3 q4; have X2 := hide ((unhide X1).trans hw); have Y2 := hide y; clear hw y; refine ⟨_, rfl, ?_⟩)
    | (refine step_call_one rfl 20 (.tmp 7) 25 rfl _ (by simp [Act.eval, Act.put]) (enterTaken _ _) (Calls.mono (unhide CT' _ (unhide DR)) ?_); rintro e w1 ⟨rfl, hw⟩; have y := (unhide YR).trans hw; have p0 := ((Ext.alloc _ _).trans y).box 0 rfl; have p1 := ((Ext.alloc _ _).trans y).box 1 rfl; have p2 := ((Ext.alloc _ _).trans y).box 2 rfl; have p3 := ((Ext.alloc _ _).trans y).box 3 rfl; have p4 := ((Ext.alloc _ _).trans y).box 4 rfl; have q0 := y.box 0 rfl; have q1 := y.box 1 rfl; have q2 := y.box 2 rfl; have q3 := y.box 3 rfl; have q4 := y.box 4 rfl; simp only [heap_alloc_size] at q0 q1 q2 q3 q4; have X1 := hide ((unhide DR).trans hw); have Y1 := hide y; clear hw y; refine ⟨_, rfl, ?_⟩)
    | (refine step_call_two rfl 24 (.tmp 6) (.tmp 8) 25 25 rfl _ _ (by simp [Act.eval, Act.put]) (by simp [Act.eval, Act.put]) (enterEqual _ _ _) (Calls.mono (unhide CE _ (unhide X2)) ?_); rintro e w3 ⟨rfl, hw⟩; have X3 := hide ((unhide X2).trans hw); clear hw; refine ⟨_, rfl, ?_⟩))
  all_goals
    go_wp2_with fail
    go_ret
    exact ⟨rfl, unhide X3⟩

end Go.Proofs.YtmcmfgihdhfcdaaDoor
