/- An op of two values, an op of one: the function that stands in the table at its number, of what the values are taken for. -/
import Derived.Test.YtbkncdjmodeabaaOpsTab
import Derived.Test.YtbkncdjmodeabaaValCopy
set_option linter.unusedSimpArgs false
set_option maxRecDepth 10000
namespace Go.Proofs.Ytbkncdjmodeabaa
open Go.RowKit

/-- A call of the function that an operand holds, of two arguments, as one step of a region that draws its order. -/
theorem step_call_val2 {P : Program} {w : World} {ops : Array Oper} {o : Oper} {a : Act} {K : Act → World → Prop} {Q : Exit → Act → World → Prop} {E : Prop}
    (hg : o.guard = none) (z x y : Operand) (t u : TypeId) (hop : o.op = Op.call { callee := Callee.value z, args := #[x, y], argTypes := #[t, u] })
    (f : FuncId) (v v' : Value) (hz : a.eval z = fnV f) (hx : a.eval x = v) (hy : a.eval y = v') (hf : (callFunc f #[v, v']).run P w = .ok (.enter f #[v, v']) w) (hK : Calls P f #[v, v'] w fun e w' => ∃ r, e = .returned r ∧ K (a.put o.dst r) w') :
    if Region.wanted o (yielded ops a.tmps) = true then Oper.wp P o a w K Q else E := by
  have hw : Region.wanted o (yielded ops a.tmps) = true := by simp [Region.wanted, hg]
  rw [if_pos hw]
  unfold Oper.wp
  have hrun : (execOp a.eval o).run P w = .ok (.enter f #[v, v']) w := by
    simp [execOp, hop, resolve, invoke, hx, hy, hz, Result.andThen, Deferred.ofValue, hf]
  rw [hrun, Oper.upon_enter]
  refine hK.mono ?_
  rintro e w' ⟨r, rfl, h⟩
  exact h

theorem enterOTaken (v : Value) (w : World) : (callFunc 14 #[v]).run Try.prog w = .ok (.enter 14 #[v]) w := by kernel_rfl

/-- The five cells of a variable, stored anew. -/
abbrev set5 (w : World) (g : Nat) (k n : Int) (re im : Nat) (s : ByteArray) (a : Option Addr) (l c : Nat) : World :=
  ((((w.setCell ⟨g, 0, none⟩ (.int .i64 k)).setCell ⟨g, 1, none⟩ (.int .i64 n)).setCell ⟨g, 2, none⟩ (.complex .f64 re im)).setCell ⟨g, 3, none⟩ (.string s)).setCell ⟨g, 4, none⟩ (.slice a l c)

theorem set5_size (w : World) (g : Nat) (k n : Int) (re im : Nat) (s : ByteArray) (a : Option Addr) (l c : Nat) : (set5 w g k n re im s a l c).heap.size = w.heap.size := by
  simp only [set5, World.setCell, Array.size_modify]

theorem set5_other (w : World) (g b : Nat) (h : b ≠ g) (k n : Int) (re im : Nat) (s : ByteArray) (a : Option Addr) (l c : Nat) : (set5 w g k n re im s a l c).heap[b]? = w.heap[b]? := by
  unfold set5
  rw [Below.heap_setCell _ _ _ _ h, Below.heap_setCell _ _ _ _ h, Below.heap_setCell _ _ _ _ h, Below.heap_setCell _ _ _ _ h, Below.heap_setCell _ _ _ _ h]

theorem set5_ext {w w' : World} (h : Ext w w') (g : Nat) (hg : w.heap.size ≤ g) (k n : Int) (re im : Nat) (s : ByteArray) (a : Option Addr) (l c : Nat) : Ext w (set5 w' g k n re im s a l c) :=
  ((((h.set hg _).set hg _).set hg _).set hg _).set hg _

/-- A call of an op's function answers the plain value y, in memory of its own, beside the error x. -/
def Ans (f : FuncId) (args : Array Value) (w : World) (y : PV) (x : Int) : Prop :=
  Calls Try.prog f args w fun e w' => ∃ r, e = .returned (.tuple #[r, .int .i64 x]) ∧ Rep w' (Fresh w w') y r ∧ Ext w w'

/-- What stands behind the store of the answer into the result's variable. -/
theorem ans5 {w w1 w2 : World} {y : PV} {k n : Int} {re im : Nat} {s : ByteArray} {a : Option Addr} {l c : Nat} (x : Int) (g : Nat) (h01 : Ext w w1) (hg : w.heap.size ≤ g) (hg2 : g < w1.heap.size) (h12 : Ext w1 w2)
    (hr : Rep w2 (Fresh w1 w2) y (.agg #[.int .i64 k, .int .i64 n, .complex .f64 re im, .string s, .slice a l c])) :
    ∃ r, Ending.returned (.tuple #[.agg #[.int .i64 k, .int .i64 n, .complex .f64 re im, .string s, .slice a l c], .int .i64 x]) = .returned (.tuple #[r, .int .i64 x]) ∧ Rep (set5 w2 g k n re im s a l c) (Fresh w (set5 w2 g k n re im s a l c)) y r ∧ Ext w (set5 w2 g k n re im s a l c) := by
  refine ⟨_, rfl, Rep.to (fun b hb => ⟨⟨?fa, ?fb⟩, ?fc⟩) _ _ hr, set5_ext (h01.trans h12) g hg _ _ _ _ _ _ _ _⟩
  case fa => exact Nat.le_trans h01.le hb.1
  case fb => rw [set5_size]; exact hb.2
  case fc => exact set5_other _ _ _ (by have := hb.1; omega) _ _ _ _ _ _ _ _

/-- A variable's five cells, as they stand in every later world. -/
structure Five (w : World) (g : Nat) (k n : Int) (re im : Nat) (s : ByteArray) (a : Option Addr) (l c : Nat) : Prop where
  c0 : w.cell? ⟨g, 0, none⟩ = some (.int .i64 k)
  c1 : w.cell? ⟨g, 1, none⟩ = some (.int .i64 n)
  c2 : w.cell? ⟨g, 2, none⟩ = some (.complex .f64 re im)
  c3 : w.cell? ⟨g, 3, none⟩ = some (.string s)
  c4 : w.cell? ⟨g, 4, none⟩ = some (.slice a l c)
  fz : ∀ i, w.frozen? ⟨g, i, none⟩ = false

theorem Five.new (w : World) (t : TypeId) (k n : Int) (re im : Nat) (s : ByteArray) (a : Option Addr) (l c : Nat) : Five (w.alloc (.cells #[.int .i64 k, .int .i64 n, .complex .f64 re im, .string s, .slice a l c] t)) w.heap.size k n re im s a l c :=
  ⟨cell_box w _ t 0 rfl, cell_box w _ t 1 rfl, cell_box w _ t 2 rfl, cell_box w _ t 3 rfl, cell_box w _ t 4 rfl, frozen_box w _ t⟩

theorem Five.on {w w' : World} {g : Nat} {k n : Int} {re im : Nat} {s : ByteArray} {a : Option Addr} {l c : Nat} (h : Five w g k n re im s a l c) (e : Ext w w') : Five w' g k n re im s a l c :=
  ⟨e.cell h.c0, e.cell h.c1, e.cell h.c2, e.cell h.c3, e.cell h.c4, fun i => (Below.frozen e (p := ⟨g, i, none⟩) (World.block_lt_of_cell? w ⟨g, 0, none⟩ h.c0)).trans (h.fz i)⟩

theorem Five.at {w : World} {g g' : Nat} {k n : Int} {re im : Nat} {s : ByteArray} {a : Option Addr} {l c : Nat} (h : Five w g k n re im s a l c) (e : g = g') : Five w g' k n re im s a l c := e ▸ h

set_option maxHeartbeats 4000000 in
theorem binary_any (op : Int) (f : FuncId) (h1 : 1 ≤ op) (h2 : op ≤ 14) (hf : ∀ W : World, (Instr.index 41 (.agg binTab) (.int .i64 op)).run Try.prog W = .ok (fnV f) W) (hc : ∀ (v u : Value) (W : World), (callFunc f #[v, u]).run Try.prog W = .ok (.enter f #[v, u]) W)
    (p q : PV) (v u : Value) (w : World) (hr : Rep w (In w) p v) (hq : Rep w (In w) q u) (y : PV) (x : Int)
    (hR : ∀ W, Ext w W → Ans f #[if okv p then v else nilV, if okv q then u else nilV] W y x) :
    Ans 6 #[.int .i64 op, v, u] w y x := by
  have CT := hide (fun W (h : Ext w W) => otaken_val p v W (hr.ext h))
  have CT' := hide (fun W (h : Ext w W) => otaken_val q u W (hq.ext h))
  have HR := hide hR
  clear hR
  generalize (if okv p = true then v else nilV) = v1 at CT HR
  generalize (if okv q = true then u else nilV) = u1 at CT' HR
  cases p with
  | mk k n re im s l =>
  cases q with
  | mk k' n' re' im' s' l' =>
  rw [Rep] at hr hq
  obtain ⟨a, cap, rfl, -, -⟩ := hr
  obtain ⟨a', cap', rfl, -, -⟩ := hq
  unfold Ans
  have HC := hide hc
  cases y with
  | mk ky ny rey imy sy ly =>
  clear hc
  go_enter Try.func6, Try.ntmps6
  go_wp2_with (first
    | (go_at_call 11; refine Calls.mono (arity_two _ _ (by omega) (by omega)) ?_; rintro e w0 ⟨rfl, rfl⟩)
    | (go_at_call 13; refine Calls.mono (binaries_any _) ?_; rintro e w1 ⟨rfl, hw1⟩
       have FZ := (Five.new _ _ _ _ _ _ _ _ _ _).on hw1; have y1 := (Ext.alloc _ _).trans hw1; have FB := (Five.new _ _ _ _ _ _ _ _ _ _).on y1; have x1 := (Ext.alloc _ _).trans y1; have FA := (Five.new _ _ _ _ _ _ _ _ _ _).on x1
       simp only [heap_alloc_size] at FZ FB
       have p0 := FA.c0; have p1 := FA.c1; have p2 := FA.c2; have p3 := FA.c3; have p4 := FA.c4; have q0 := FB.c0; have q1 := FB.c1; have q2 := FB.c2; have q3 := FB.c3; have q4 := FB.c4
       have X0 := hide ((Ext.alloc _ _).trans x1); have A := hide FA; have B := hide FB; have Z := hide FZ; clear hw1 x1 y1 FA FB FZ))
  have hzlt : w.heap.size + 1 + 1 < w1.heap.size := World.block_lt_of_cell? w1 _ (unhide Z).c0
  have DR : Hd (Ext w w1.drew) := Ext.drew (unhide X0)
  have DD : Hd (Ext w1 w1.drew) := Ext.drew (Ext.refl _)
  go_region_law (first
    | (refine step_call_one rfl 14 (.tmp 19) 25 rfl _ (by simp [Act.eval, Act.put]) (enterOTaken _ _) (Calls.mono (unhide CT _ ((unhide X0).trans (unhide D1))) ?_); rintro e w3 ⟨rfl, hw⟩; have D2 := hide ((unhide D1).trans hw); clear hw; have fA := (unhide A).on (unhide D2); have fB := (unhide B).on (unhide D2); have p0 := fA.c0; have p1 := fA.c1; have p2 := fA.c2; have p3 := fA.c3; have p4 := fA.c4; have q0 := fB.c0; have q1 := fB.c1; have q2 := fB.c2; have q3 := fB.c3; have q4 := fB.c4; clear fA fB; refine ⟨_, rfl, ?_⟩)
    | (refine step_call_one rfl 14 (.tmp 19) 25 rfl _ (by simp [Act.eval, Act.put]) (enterOTaken _ _) (Calls.mono (unhide CT _ (unhide DR)) ?_); rintro e w2 ⟨rfl, hw⟩; have D1 := hide ((unhide DD).trans hw); clear hw; have fA := (unhide A).on (unhide D1); have fB := (unhide B).on (unhide D1); have p0 := fA.c0; have p1 := fA.c1; have p2 := fA.c2; have p3 := fA.c3; have p4 := fA.c4; have q0 := fB.c0; have q1 := fB.c1; have q2 := fB.c2; have q3 := fB.c3; have q4 := fB.c4; clear fA fB; refine ⟨_, rfl, ?_⟩)
    | (refine step_call_one rfl 14 (.tmp 21) 25 rfl _ (by simp [Act.eval, Act.put]) (enterOTaken _ _) (Calls.mono (unhide CT' _ ((unhide X0).trans (unhide D1))) ?_); rintro e w3 ⟨rfl, hw⟩; have D2 := hide ((unhide D1).trans hw); clear hw; have fA := (unhide A).on (unhide D2); have fB := (unhide B).on (unhide D2); have p0 := fA.c0; have p1 := fA.c1; have p2 := fA.c2; have p3 := fA.c3; have p4 := fA.c4; have q0 := fB.c0; have q1 := fB.c1; have q2 := fB.c2; have q3 := fB.c3; have q4 := fB.c4; clear fA fB; refine ⟨_, rfl, ?_⟩)
    | (refine step_call_one rfl 14 (.tmp 21) 25 rfl _ (by simp [Act.eval, Act.put]) (enterOTaken _ _) (Calls.mono (unhide CT' _ (unhide DR)) ?_); rintro e w2 ⟨rfl, hw⟩; have D1 := hide ((unhide DD).trans hw); clear hw; have fA := (unhide A).on (unhide D1); have fB := (unhide B).on (unhide D1); have p0 := fA.c0; have p1 := fA.c1; have p2 := fA.c2; have p3 := fA.c3; have p4 := fA.c4; have q0 := fB.c0; have q1 := fB.c1; have q2 := fB.c2; have q3 := fB.c3; have q4 := fB.c4; clear fA fB; refine ⟨_, rfl, ?_⟩)
    | (refine step_call_val2 rfl (.tmp 18) (.tmp 20) (.tmp 22) 25 25 rfl f _ _ (by simp [Act.eval, Act.put]) (by simp [Act.eval, Act.put]) (by simp [Act.eval, Act.put]) (unhide HC _ _ _) (Calls.mono (unhide HR _ ((unhide X0).trans (unhide D2))) ?_); rintro e w4 ⟨r, rfl, hr4, hw⟩; rw [Rep] at hr4; obtain ⟨ay, cy, rfl, hby, hly⟩ := hr4; have D3 := hide ((unhide D2).trans hw); have fZ := (unhide Z).on (unhide D3); have z0 := fZ.c0; have z1 := fZ.c1; have z2 := fZ.c2; have z3 := fZ.c3; have z4 := fZ.c4; have zf := fZ.fz; clear fZ; have BY := hide hby; have LY := hide hly; have W4 := hide hw; clear hby hly hw; refine ⟨_, rfl, ?_⟩))
  all_goals
    go_wp2_with fail
    have hlt3 := Nat.lt_of_lt_of_le hzlt (unhide D2).le
    exact bodyPost_ret (v := .tuple #[.agg #[.int .i64 ky, .int .i64 ny, .complex .f64 rey imy, .string sy, .slice ay ly.length cy], .int .i64 x]) (by simp [results, Try.results6, go_sem, z0, z1, z2, z3, z4]) rfl
      (ans5 x (w.heap.size + 1 + 1) ((unhide X0).trans (unhide D2)) (by omega) hlt3 (unhide W4) (by rw [Rep]; exact ⟨ay, cy, rfl, unhide BY, unhide LY⟩))

theorem unary_any (op : Int) (f : FuncId) (h1 : 15 ≤ op) (h2 : op ≤ 20) (hf : ∀ W : World, (Instr.index 47 (.agg unTab) (.int .i64 op)).run Try.prog W = .ok (fnV f) W) (hc : ∀ (v : Value) (W : World), (callFunc f #[v]).run Try.prog W = .ok (.enter f #[v]) W)
    (p : PV) (v : Value) (w : World) (hr : Rep w (In w) p v) (y : PV) (x : Int)
    (hR : ∀ W, Ext w W → Ans f #[if okv p then v else nilV] W y x) :
    Ans 9 #[.int .i64 op, v] w y x := by
  have CT := hide (fun W (h : Ext w W) => otaken_val p v W (hr.ext h))
  have HR := hide hR
  clear hR
  generalize (if okv p = true then v else nilV) = v1 at CT HR
  cases p with
  | mk k n re im s l =>
  rw [Rep] at hr
  obtain ⟨a, cap, rfl, -, -⟩ := hr
  unfold Ans
  cases y with
  | mk ky ny rey imy sy ly =>
  go_enter Try.func9, Try.ntmps9
  go_wp2_with (first
    | (go_at_call 11; refine Calls.mono (arity_one _ _ (by omega) (by omega)) ?_; rintro e w0 ⟨rfl, rfl⟩)
    | (go_at_call 16; refine Calls.mono (unaries_any _) ?_; rintro e w1 ⟨rfl, hw1⟩
       have FZ := (Five.new _ _ _ _ _ _ _ _ _ _).on hw1; have y1 := (Ext.alloc _ _).trans hw1; have FA := (Five.new _ _ _ _ _ _ _ _ _ _).on y1
       simp only [heap_alloc_size] at FZ
       have p0 := FA.c0; have p1 := FA.c1; have p2 := FA.c2; have p3 := FA.c3; have p4 := FA.c4
       have X0 := hide ((Ext.alloc _ _).trans y1); have Z := hide FZ; clear hw1 y1 FA FZ)
    | (go_at_call 14; refine Calls.mono (unhide CT _ (unhide X0)) ?_; rintro e w2 ⟨rfl, hw2⟩; have X2 := hide ((unhide X0).trans hw2); have Z2 := hide ((unhide Z).on hw2); clear hw2)
    | (refine Calls.mono (unhide HR _ (unhide X2)) ?_; rintro e w4 ⟨r, rfl, hr4, hw⟩; rw [Rep] at hr4; obtain ⟨ay, cy, rfl, hby, hly⟩ := hr4; have fZ := (unhide Z2).on hw; have z0 := fZ.c0; have z1 := fZ.c1; have z2 := fZ.c2; have z3 := fZ.c3; have z4 := fZ.c4; have zf := fZ.fz; clear fZ; have BY := hide hby; have LY := hide hly; have W4 := hide hw; clear hby hly hw))
  have hlt3 : w.heap.size + 1 < w2.heap.size := World.block_lt_of_cell? w2 _ (unhide Z2).c0
  exact bodyPost_ret (v := .tuple #[.agg #[.int .i64 ky, .int .i64 ny, .complex .f64 rey imy, .string sy, .slice ay ly.length cy], .int .i64 x]) (by simp [results, Try.results9, go_sem, z0, z1, z2, z3, z4]) rfl
    (ans5 x (w.heap.size + 1) (unhide X2) (by omega) hlt3 (unhide W4) (by rw [Rep]; exact ⟨ay, cy, rfl, unhide BY, unhide LY⟩))

end Go.Proofs.Ytbkncdjmodeabaa
