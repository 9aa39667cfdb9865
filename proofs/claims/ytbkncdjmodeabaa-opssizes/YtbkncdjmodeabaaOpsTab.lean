/- The small steps of the package ops: how many values an op takes, the tables of functions, what a value is taken for, what stands beside an error. -/
import Derived.Test.YtbkncdjmodeabaaValMake
import Derived.Laws.Tables
import Derived.Laws.Rows
import Derived.Laws.CopyOwn
set_option linter.unusedSimpArgs false
set_option maxRecDepth 10000
namespace Go.Proofs.Ytbkncdjmodeabaa
open Go.RowKit

theorem arity_two (op : Int) (w : World) (h1 : 1 ≤ op) (h2 : op ≤ 14) : Calls Try.prog 11 #[.int .i64 op] w fun e w' => e = .returned (.int .i64 2) ∧ w' = w := by
  go_enter Try.func11, Try.ntmps11
  go_wp2_with fail
  go_ret
  exact ⟨rfl, rfl⟩

theorem arity_one (op : Int) (w : World) (h1 : 15 ≤ op) (h2 : op ≤ 20) : Calls Try.prog 11 #[.int .i64 op] w fun e w' => e = .returned (.int .i64 1) ∧ w' = w := by
  have h3 : ¬ op ≤ 14 := by omega
  have h4 : 1 ≤ op := by omega
  go_enter Try.func11, Try.ntmps11
  go_wp2_with fail
  go_ret
  exact ⟨rfl, rfl⟩

abbrev fnV (f : FuncId) : Value := .func (.func f) #[] #[]

/-- The table of the ops of two values. -/
abbrev binTab : Array Value := #[.nilFunc, fnV 18, fnV 19, fnV 20, fnV 21, fnV 22, fnV 23, fnV 24, fnV 25, fnV 26, fnV 27, fnV 28, fnV 29, fnV 30, fnV 31]
/-- The table of the ops of one value. -/
abbrev unTab : Array Value := #[.nilFunc, .nilFunc, .nilFunc, .nilFunc, .nilFunc, .nilFunc, .nilFunc, .nilFunc, .nilFunc, .nilFunc, .nilFunc, .nilFunc, .nilFunc, .nilFunc, .nilFunc, fnV 33, fnV 34, fnV 35, fnV 36, fnV 37, fnV 38]

abbrev nf15 : Array Value := #[.nilFunc, .nilFunc, .nilFunc, .nilFunc, .nilFunc, .nilFunc, .nilFunc, .nilFunc, .nilFunc, .nilFunc, .nilFunc, .nilFunc, .nilFunc, .nilFunc, .nilFunc]
abbrev nf21 : Array Value := #[.nilFunc, .nilFunc, .nilFunc, .nilFunc, .nilFunc, .nilFunc, .nilFunc, .nilFunc, .nilFunc, .nilFunc, .nilFunc, .nilFunc, .nilFunc, .nilFunc, .nilFunc, .nilFunc, .nilFunc, .nilFunc, .nilFunc, .nilFunc, .nilFunc]

theorem infoB : (Try.prog.info? 41).map (·.size) = some binTab.size := by kernel_rfl

theorem binaries_any (w : World) : Calls Try.prog 13 #[] w fun e w' => e = .returned (.agg binTab) ∧ Ext w w' := by
  go_enter Try.func13, Try.ntmps13
  go_wp2_with (refine wpList_store_row rfl 41 (.tmp 0) (.tmp 1) rfl w.heap.size binTab ?_ ?_ 41 nf15 ?_ ?_ ?_ ?_ ?_)
  · rfl
  · rfl
  · exact Go.heap_alloc_new w _
  · exact infoB
  · rfl
  · decide +kernel
  · exact bodyPost_ret (v := .agg binTab) (results_cell_row Try.results13 _ _ w.heap.size 41 binTab (0, 0) _ rfl (setRow_heap _ _ nf15 _ _ _ (Go.heap_alloc_new w _)) Try.underlying41 rfl infoB) rfl ⟨rfl, below_setRow (Ext.alloc w _) (Nat.le_refl _) _⟩

theorem infoU : (Try.prog.info? 47).map (·.size) = some unTab.size := by kernel_rfl

theorem unaries_any (w : World) : Calls Try.prog 16 #[] w fun e w' => e = .returned (.agg unTab) ∧ Ext w w' := by
  go_enter Try.func16, Try.ntmps16
  go_wp2_with (refine wpList_store_row rfl 47 (.tmp 0) (.tmp 1) rfl w.heap.size unTab ?_ ?_ 47 nf21 ?_ ?_ ?_ ?_ ?_)
  · rfl
  · rfl
  · exact Go.heap_alloc_new w _
  · exact infoU
  · rfl
  · decide +kernel
  · exact bodyPost_ret (v := .agg unTab) (results_cell_row Try.results16 _ _ w.heap.size 47 unTab (0, 0) _ rfl (setRow_heap _ _ nf21 _ _ _ (Go.heap_alloc_new w _)) Try.underlying47 rfl infoU) rfl ⟨rfl, below_setRow (Ext.alloc w _) (Nat.le_refl _) _⟩

/-- What is answered beside an error. -/
theorem failed_any (x : Int) (w : World) : Calls Try.prog 12 #[.int .i64 x] w fun e w' => e = .returned (.tuple #[nilV, .int .i64 x]) ∧ Ext w w' := by
  go_enter Try.func12, Try.ntmps12
  go_wp2_with (go_at_call 17; refine Calls.mono (nil_any _) ?_; rintro e w1 ⟨rfl, hw1⟩; have hx0 := hw1.box 0 rfl; have hx1 := hw1.box 1 rfl; have hx2 := hw1.box 2 rfl; have hx3 := hw1.box 3 rfl; have hx4 := hw1.box 4 rfl; have hf := hw1.boxF)
  have hE := (Ext.alloc w _).trans hw1
  exact bodyPost_ret (v := .tuple #[nilV, .int .i64 x]) (by simp [results, Try.results12, go_sem, hx0, hx1, hx2, hx3, hx4]) rfl ⟨rfl, ((((hE.set (by simp) _).set (by simp) _).set (by simp) _).set (by simp) _).set (by simp) _⟩

theorem told_any (b : Bool) (w : World) : Calls Try.prog 50 #[.bool b] w fun e w' => e = .returned (.tuple #[.agg #[.int .i64 1, .int .i64 (if b then 1 else 0), .complex .f64 0 0, .string ⟨#[]⟩, .slice none 0 0], .int .i64 0]) ∧ Ext w w' := by
  cases b
  all_goals
    go_enter Try.func50, Try.ntmps50
    go_wp2_with (go_at_call 40; refine Calls.mono (int_any _ _) ?_; rintro e w1 ⟨rfl, hw1⟩; have hx0 := hw1.box 0 rfl; have hx1 := hw1.box 1 rfl; have hx2 := hw1.box 2 rfl; have hx3 := hw1.box 3 rfl; have hx4 := hw1.box 4 rfl; have hf := hw1.boxF)
    have hE := (Ext.alloc w _).trans hw1
    exact bodyPost_ret (by simp [results, Try.results50, go_sem, hx0, hx1, hx2, hx3, hx4]) rfl ⟨rfl, ((((hE.set (by simp) _).set (by simp) _).set (by simp) _).set (by simp) _).set (by simp) _⟩

theorem both_any (kd k n k' n' : Int) (re im re' im' : Nat) (s s' : ByteArray) (a a' : Option Addr) (l c l' c' : Nat) (w : World) :
    Calls Try.prog 39 #[.int .i64 kd, .agg #[.int .i64 k, .int .i64 n, .complex .f64 re im, .string s, .slice a l c], .agg #[.int .i64 k', .int .i64 n', .complex .f64 re' im', .string s', .slice a' l' c']] w
      fun e w' => e = .returned (.bool (decide (k = kd) && decide (k' = kd))) ∧ Ext w w' := by
  by_cases h1 : k = kd <;> by_cases h2 : k' = kd
  all_goals
    first | subst h1 | skip
    first | subst h2 | skip
    go_enter Try.func39, Try.ntmps39
    go_wp2_with fail
    go_ret
    exact ⟨ret_bool (by simp [*]), (Ext.alloc _ _).trans (Ext.alloc _ _)⟩

/-- A value just made: it, or that it would be too great. -/
theorem done_any (k n : Int) (re im : Nat) (s : ByteArray) (a : Option Addr) (l c : Nat) (w : World) :
    Calls Try.prog 41 #[.agg #[.int .i64 k, .int .i64 n, .complex .f64 re im, .string s, .slice a l c]] w
      fun e w' => e = .returned (if k = 0 then .tuple #[nilV, .int .i64 4] else .tuple #[.agg #[.int .i64 k, .int .i64 n, .complex .f64 re im, .string s, .slice a l c], .int .i64 0]) ∧ Ext w w' := by
  by_cases h : k = 0
  · subst h
    rw [if_pos rfl]
    go_enter Try.func41, Try.ntmps41
    go_wp2_with (go_at_call 12; refine Calls.mono (failed_any _ _) ?_; rintro e w1 ⟨rfl, hw1⟩; have hx0 := hw1.box 0 rfl; have hx1 := hw1.box 1 rfl; have hx2 := hw1.box 2 rfl; have hx3 := hw1.box 3 rfl; have hx4 := hw1.box 4 rfl; have hf := hw1.boxF; simp only [heap_alloc_size] at hx0 hx1 hx2 hx3 hx4 hf)
    have hE := ((Ext.alloc w _).trans (Ext.alloc _ _)).trans hw1
    exact bodyPost_ret (v := .tuple #[nilV, .int .i64 4]) (by simp [results, Try.results41, go_sem, hx0, hx1, hx2, hx3, hx4]) rfl ⟨rfl, ((((hE.set (by simp) _).set (by simp) _).set (by simp) _).set (by simp) _).set (by simp) _⟩
  · rw [if_neg h]
    go_enter Try.func41, Try.ntmps41
    go_wp2_with fail
    go_returns
    exact ⟨rfl, (Ext.alloc _ _).trans (Ext.alloc _ _)⟩

/-- How many bytes a text has, how many values a list. -/
theorem length_text (n : Int) (re im : Nat) (s : ByteArray) (a : Option Addr) (l c : Nat) (w : World) :
    Calls Try.prog 57 #[.agg #[.int .i64 3, .int .i64 n, .complex .f64 re im, .string s, .slice a l c]] w fun e w' => e = .returned (.tuple #[.int .i64 s.size, .bool true]) ∧ Ext w w' := by
  go_enter Try.func57, Try.ntmps57
  go_wp2_with fail
  go_ret2
  exact ⟨rfl, Ext.alloc _ _⟩

theorem length_list (n : Int) (re im : Nat) (s : ByteArray) (a : Option Addr) (l c : Nat) (w : World) :
    Calls Try.prog 57 #[.agg #[.int .i64 4, .int .i64 n, .complex .f64 re im, .string s, .slice a l c]] w fun e w' => e = .returned (.tuple #[.int .i64 l, .bool true]) ∧ Ext w w' := by
  go_enter Try.func57, Try.ntmps57
  go_wp2_with fail
  go_ret2
  exact ⟨rfl, Ext.alloc _ _⟩

theorem otaken_val (p : PV) (v : Value) (w : World) (hr : Rep w (In w) p v) :
    Calls Try.prog 14 #[v] w fun e w' => e = .returned (if okv p then v else nilV) ∧ Ext w w' := by
  have hc := fun w' (h : Ext w w') => okv_any p v w' (hr.ext h)
  cases hO : okv p
  · rw [if_neg (by decide)]
    rw [hO] at hc
    clear hO
    cases p with
    | mk k n re im s l =>
    rw [Rep] at hr
    obtain ⟨a, cap, rfl, hb, hl⟩ := hr
    have C := hide hc
    clear hc hb hl
    go_enter Try.func14, Try.ntmps14
    go_wp2_with (first | (go_at_call 32; refine Calls.mono (unhide C _ ((Ext.alloc _ _).trans (Ext.alloc _ _))) ?_; rintro e w1 ⟨rfl, hw1⟩) | (go_at_call 17; refine Calls.mono (nil_any _) ?_; rintro e w2 ⟨rfl, hw2⟩; have hw3 := hw1.trans hw2; have hx0 := hw3.box 0 rfl; have hx1 := hw3.box 1 rfl; have hx2 := hw3.box 2 rfl; have hx3 := hw3.box 3 rfl; have hx4 := hw3.box 4 rfl; have hf := hw3.boxF; simp only [heap_alloc_size] at hx0 hx1 hx2 hx3 hx4 hf))
    refine bodyPost_ret (v := nilV) (by simp [results, Try.results14, go_sem, hx0, hx1, hx2, hx3, hx4]) rfl ⟨rfl, ?_⟩
    have hE := ((Ext.alloc w _).trans (Ext.alloc _ _)).trans hw3
    exact ((((hE.set (by simp) _).set (by simp) _).set (by simp) _).set (by simp) _).set (by simp) _
  · rw [if_pos rfl]
    rw [hO] at hc
    clear hO
    cases p with
    | mk k n re im s l =>
    rw [Rep] at hr
    obtain ⟨a, cap, rfl, hb, hl⟩ := hr
    have C := hide hc
    clear hc hb hl
    go_enter Try.func14, Try.ntmps14
    go_wp2_with (go_at_call 32; refine Calls.mono (unhide C _ ((Ext.alloc _ _).trans (Ext.alloc _ _))) ?_; rintro e w1 ⟨rfl, hw1⟩; have hx0 := hw1.box 0 rfl; have hx1 := hw1.box 1 rfl; have hx2 := hw1.box 2 rfl; have hx3 := hw1.box 3 rfl; have hx4 := hw1.box 4 rfl; have hf := hw1.boxF; have hy := (Ext.alloc _ _).trans hw1; have hy0 := hy.box 0 rfl; have hy1 := hy.box 1 rfl; have hy2 := hy.box 2 rfl; have hy3 := hy.box 3 rfl; have hy4 := hy.box 4 rfl; simp only [heap_alloc_size] at hx0 hx1 hx2 hx3 hx4 hf)
    have hE := (Ext.alloc w _).trans hy
    have hE := ((((hE.set (a := ⟨w.heap.size + 1, 0, none⟩) (by simp) (.int .i64 k)).set (a := ⟨w.heap.size + 1, 1, none⟩) (by simp) (.int .i64 n)).set (a := ⟨w.heap.size + 1, 2, none⟩) (by simp) (.complex .f64 re im)).set (a := ⟨w.heap.size + 1, 3, none⟩) (by simp) (.string s)).set (a := ⟨w.heap.size + 1, 4, none⟩) (by simp) (.slice a l.length cap)
    exact bodyPost_ret (v := .agg #[.int .i64 k, .int .i64 n, .complex .f64 re im, .string s, .slice a l.length cap]) (by simp [results, Try.results14, go_sem, hx0, hx1, hx2, hx3, hx4]) rfl ⟨rfl, hE⟩

end Go.Proofs.Ytbkncdjmodeabaa
