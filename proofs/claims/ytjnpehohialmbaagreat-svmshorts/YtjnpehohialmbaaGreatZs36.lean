/- The small steps of the package ops: how many values an op takes,the tables of functions,what a value is taken for,what stands beside an error. -/
import Derived.Laws.Tables
import Derived.Laws.Rows
import Derived.Laws.CopyOwn
import Derived.Lib.AppendZeros
import Derived.Test.YtjnpehohialmbaaGreatZs33
set_option linter.unusedSimpArgs false
set_option maxRecDepth 10000
set_option linter.unusedVariables false
set_option maxHeartbeats 4000000
namespace Go.Proofs.YtjnpehohialmbaaGreat
open Go.RowKit
namespace V
theorem arity_two (op:Int) (w:World) (h1:1≤op) (h2:op≤14):Calls Tryz.prog 109 #[.int .i64 op] w fun e w'=>e = .returned (.int .i64 2)∧w' = w:=by
 go_enter Tryz.func109,Tryz.ntmps109
 go_wp2_with fail
 go_ret;exact⟨rfl,rfl⟩
theorem arity_one (op:Int) (w:World) (h1:15≤op) (h2:op≤20):Calls Tryz.prog 109 #[.int .i64 op] w fun e w'=>e = .returned (.int .i64 1)∧w' = w:=by
 have h3:¬ op≤14:=by omega
 have h4:1≤op:=by omega
 go_enter Tryz.func109,Tryz.ntmps109
 go_wp2_with fail
 go_ret;exact⟨rfl,rfl⟩
abbrev fnV (f:FuncId):Value:=.func (.func f) #[] #[]
abbrev binTab:Array Value:=#[.nilFunc,fnV 125,fnV 126,fnV 127,fnV 128,fnV 129,fnV 130,fnV 131,fnV 132,fnV 133,fnV 134,fnV 135,fnV 136,fnV 137,fnV 138]
abbrev unTab:Array Value:=#[.nilFunc,.nilFunc,.nilFunc,.nilFunc,.nilFunc,.nilFunc,.nilFunc,.nilFunc,.nilFunc,.nilFunc,.nilFunc,.nilFunc,.nilFunc,.nilFunc,.nilFunc,fnV 139,fnV 140,fnV 141,fnV 142,fnV 143,fnV 144]
abbrev nf15:Array Value:=#[.nilFunc,.nilFunc,.nilFunc,.nilFunc,.nilFunc,.nilFunc,.nilFunc,.nilFunc,.nilFunc,.nilFunc,.nilFunc,.nilFunc,.nilFunc,.nilFunc,.nilFunc]
abbrev nf21:Array Value:=#[.nilFunc,.nilFunc,.nilFunc,.nilFunc,.nilFunc,.nilFunc,.nilFunc,.nilFunc,.nilFunc,.nilFunc,.nilFunc,.nilFunc,.nilFunc,.nilFunc,.nilFunc,.nilFunc,.nilFunc,.nilFunc,.nilFunc,.nilFunc,.nilFunc]
theorem infoB:(Tryz.prog.info? 181).map (·.size)=some binTab.size:=by kernel_rfl
theorem binaries_any (w:World):Calls Tryz.prog 111 #[] w fun e w'=>e = .returned (.agg binTab)∧Ext w w':=by
 go_enter Tryz.func111,Tryz.ntmps111
 go_wp2_with (refine wpList_store_row rfl 181 (.tmp 0) (.tmp 1) rfl w.heap.size binTab ?_ ?_ 181 nf15 ?_ ?_ ?_ ?_ ?_)
 ·rfl
 ·rfl
 ·exact Go.heap_alloc_new w _
 ·exact infoB
 ·rfl
 ·decide +kernel
 ·exact bodyPost_ret (v:=.agg binTab) (results_cell_row Tryz.results111 _ _ w.heap.size 181 binTab (0,0) _ rfl (setRow_heap _ _ nf15 _ _ _ (Go.heap_alloc_new w _)) Tryz.underlying181 rfl infoB) rfl ⟨rfl,below_setRow (Ext.alloc w _) (Nat.le_refl _) _⟩
theorem infoU:(Tryz.prog.info? 185).map (·.size)=some unTab.size:=by kernel_rfl
theorem unaries_any (w:World):Calls Tryz.prog 113 #[] w fun e w'=>e = .returned (.agg unTab)∧Ext w w':=by
 go_enter Tryz.func113,Tryz.ntmps113
 go_wp2_with (refine wpList_store_row rfl 185 (.tmp 0) (.tmp 1) rfl w.heap.size unTab ?_ ?_ 185 nf21 ?_ ?_ ?_ ?_ ?_)
 ·rfl
 ·rfl
 ·exact Go.heap_alloc_new w _
 ·exact infoU
 ·rfl
 ·decide +kernel
 ·exact bodyPost_ret (v:=.agg unTab) (results_cell_row Tryz.results113 _ _ w.heap.size 185 unTab (0,0) _ rfl (setRow_heap _ _ nf21 _ _ _ (Go.heap_alloc_new w _)) Tryz.underlying185 rfl infoU) rfl ⟨rfl,below_setRow (Ext.alloc w _) (Nat.le_refl _) _⟩
theorem failed_any (x:Int) (w:World):Calls Tryz.prog 110 #[.int .i64 x] w fun e w'=>e = .returned (.tuple #[nilV,.int .i64 x])∧Ext w w':=by
 go_enter Tryz.func110,Tryz.ntmps110
 go_wp2_with (go_at_call 108;refine Calls.mono (nil_any _) ?_;rintro e w1 ⟨rfl,hw1⟩;have hx0:=hw1.box 0 rfl;have hx1:=hw1.box 1 rfl;have hx2:=hw1.box 2 rfl;have hx3:=hw1.box 3 rfl;have hx4:=hw1.box 4 rfl;have hf:=hw1.boxF)
 have hE:=(Ext.alloc w _).trans hw1;exact bodyPost_ret (v:=.tuple #[nilV,.int .i64 x]) (by simp[results,Tryz.results110,go_sem,hx0,hx1,hx2,hx3,hx4]) rfl ⟨rfl,((((hE.set (by simp) _).set (by simp) _).set (by simp) _).set (by simp) _).set (by simp) _⟩
theorem told_any (b:Bool) (w:World):Calls Tryz.prog 160 #[.bool b] w fun e w'=>e = .returned (.tuple #[.agg #[.int .i64 1,.int .i64 (if b then 1 else 0),.complex .f64 0 0,.string ⟨#[]⟩,.slice none 0 0],.int .i64 0])∧Ext w w':=by
 cases b
 all_goals
  go_enter Tryz.func160,Tryz.ntmps160
  go_wp2_with (go_at_call 115;refine Calls.mono (int_any _ _) ?_;rintro e w1 ⟨rfl,hw1⟩;have hx0:=hw1.box 0 rfl;have hx1:=hw1.box 1 rfl;have hx2:=hw1.box 2 rfl;have hx3:=hw1.box 3 rfl;have hx4:=hw1.box 4 rfl;have hf:=hw1.boxF)
  have hE:=(Ext.alloc w _).trans hw1;exact bodyPost_ret (by simp[results,Tryz.results160,go_sem,hx0,hx1,hx2,hx3,hx4]) rfl ⟨rfl,((((hE.set (by simp) _).set (by simp) _).set (by simp) _).set (by simp) _).set (by simp) _⟩
theorem both_any (kd k n k' n':Int) (re im re' im':Nat) (s s':ByteArray) (a a':Option Addr) (l c l' c':Nat) (w:World) :
  Calls Tryz.prog 151 #[.int .i64 kd,.agg #[.int .i64 k,.int .i64 n,.complex .f64 re im,.string s,.slice a l c],.agg #[.int .i64 k',.int .i64 n',.complex .f64 re' im',.string s',.slice a' l' c']] w
   fun e w'=>e = .returned (.bool (decide (k=kd) && decide (k' = kd)))∧Ext w w':=by
 by_cases h1:k=kd <;> by_cases h2:k' = kd
 all_goals
  first | subst h1 | skip
  first | subst h2 | skip
  go_enter Tryz.func151,Tryz.ntmps151
  go_wp2_with fail
  go_ret;exact⟨ret_bool (by simp[*]),(Ext.alloc _ _).trans (Ext.alloc _ _)⟩
theorem otaken_val (p:PV) (v:Value) (w:World) (hr:Rep w (In w) p v) :
  Calls Tryz.prog 112 #[v] w fun e w'=>e = .returned (if okv p then v else nilV)∧Ext w w':=by
 have hc:=fun w' (h:Ext w w')=>okv_any p v w' (hr.ext h);cases hO:okv p
 ·rw[if_neg (by decide)]
  rw[hO] at hc;clear hO;cases p with
  | mk k n re im s l =>
  rw[Rep] at hr;obtain⟨a,cap,rfl,hb,hl⟩:=hr;have C:=zh hc;clear hc hb hl
  go_enter Tryz.func112,Tryz.ntmps112
  go_wp2_with (first | (go_at_call 102;refine Calls.mono (zu C _ ((Ext.alloc _ _).trans (Ext.alloc _ _))) ?_;rintro e w1 ⟨rfl,hw1⟩) | (go_at_call 108;refine Calls.mono (nil_any _) ?_;rintro e w2 ⟨rfl,hw2⟩;have hw3:=hw1.trans hw2;have hx0:=hw3.box 0 rfl;have hx1:=hw3.box 1 rfl;have hx2:=hw3.box 2 rfl;have hx3:=hw3.box 3 rfl;have hx4:=hw3.box 4 rfl;have hf:=hw3.boxF;simp only[heap_alloc_size] at hx0 hx1 hx2 hx3 hx4 hf))
  refine bodyPost_ret (v:=nilV) (by simp[results,Tryz.results112,go_sem,hx0,hx1,hx2,hx3,hx4]) rfl ⟨rfl,?_⟩;have hE:=((Ext.alloc w _).trans (Ext.alloc _ _)).trans hw3;exact((((hE.set (by simp) _).set (by simp) _).set (by simp) _).set (by simp) _).set (by simp) _
 ·rw[if_pos rfl]
  rw[hO] at hc;clear hO;cases p with
  | mk k n re im s l =>
  rw[Rep] at hr;obtain⟨a,cap,rfl,hb,hl⟩:=hr;have C:=zh hc;clear hc hb hl
  go_enter Tryz.func112,Tryz.ntmps112
  go_wp2_with (go_at_call 102;refine Calls.mono (zu C _ ((Ext.alloc _ _).trans (Ext.alloc _ _))) ?_;rintro e w1 ⟨rfl,hw1⟩;have hx0:=hw1.box 0 rfl;have hx1:=hw1.box 1 rfl;have hx2:=hw1.box 2 rfl;have hx3:=hw1.box 3 rfl;have hx4:=hw1.box 4 rfl;have hf:=hw1.boxF;have hy:=(Ext.alloc _ _).trans hw1;have hy0:=hy.box 0 rfl;have hy1:=hy.box 1 rfl;have hy2:=hy.box 2 rfl;have hy3:=hy.box 3 rfl;have hy4:=hy.box 4 rfl;simp only[heap_alloc_size] at hx0 hx1 hx2 hx3 hx4 hf)
  have hE:=(Ext.alloc w _).trans hy;have hE:=((((hE.set (a:=⟨w.heap.size+1,0,none⟩) (by simp) (.int .i64 k)).set (a:=⟨w.heap.size+1,1,none⟩) (by simp) (.int .i64 n)).set (a:=⟨w.heap.size+1,2,none⟩) (by simp) (.complex .f64 re im)).set (a:=⟨w.heap.size+1,3,none⟩) (by simp) (.string s)).set (a:=⟨w.heap.size+1,4,none⟩) (by simp) (.slice a l.length cap);exact bodyPost_ret (v:=.agg #[.int .i64 k,.int .i64 n,.complex .f64 re im,.string s,.slice a l.length cap]) (by simp[results,Tryz.results112,go_sem,hx0,hx1,hx2,hx3,hx4]) rfl ⟨rfl,hE⟩
end V
namespace V
theorem step_call_val2 {P:Program} {w:World} {ops:Array Oper} {o:Oper} {a:Act} {K:Act→World→Prop} {Q:Exit→Act→World→Prop} {E:Prop}
  (hg:o.guard=none) (z x y:Operand) (t u:TypeId) (hop:o.op=Op.call { callee:=Callee.value z,args:=#[x,y],argTypes:=#[t,u] })
  (f:FuncId) (v v':Value) (hz:a.eval z=fnV f) (hx:a.eval x=v) (hy:a.eval y=v') (hf:(callFunc f #[v,v']).run P w = .ok (.enter f #[v,v']) w) (hK:Calls P f #[v,v'] w fun e w' => ∃ r,e = .returned r∧K (a.put o.dst r) w') :
  if Region.wanted o (yielded ops a.tmps)=true then Oper.wp P o a w K Q else E:=by
 have hw:Region.wanted o (yielded ops a.tmps)=true:=by simp[Region.wanted,hg]
 rw[if_pos hw];unfold Oper.wp;have hrun:(execOp a.eval o).run P w = .ok (.enter f #[v,v']) w:=by
  simp[execOp,hop,resolve,invoke,hx,hy,hz,Result.andThen,Deferred.ofValue,hf]
 rw[hrun,Oper.upon_enter];refine hK.mono ?_;rintro e w' ⟨r,rfl,h⟩;exact h
theorem enterOTaken (v:Value) (w:World):(callFunc 112 #[v]).run Tryz.prog w = .ok (.enter 112 #[v]) w:=by kernel_rfl
abbrev set5 (w:World) (g:Nat) (k n:Int) (re im:Nat) (s:ByteArray) (a:Option Addr) (l c:Nat):World :=
 ((((w.setCell ⟨g,0,none⟩ (.int .i64 k)).setCell ⟨g,1,none⟩ (.int .i64 n)).setCell ⟨g,2,none⟩ (.complex .f64 re im)).setCell ⟨g,3,none⟩ (.string s)).setCell ⟨g,4,none⟩ (.slice a l c)
theorem set5_size (w:World) (g:Nat) (k n:Int) (re im:Nat) (s:ByteArray) (a:Option Addr) (l c:Nat):(set5 w g k n re im s a l c).heap.size=w.heap.size:=by
 simp only[set5,World.setCell,Array.size_modify]
theorem set5_other (w:World) (g b:Nat) (h:b≠g) (k n:Int) (re im:Nat) (s:ByteArray) (a:Option Addr) (l c:Nat):(set5 w g k n re im s a l c).heap[b]? = w.heap[b]?:=by
 unfold set5;rw[Below.heap_setCell _ _ _ _ h,Below.heap_setCell _ _ _ _ h,Below.heap_setCell _ _ _ _ h,Below.heap_setCell _ _ _ _ h,Below.heap_setCell _ _ _ _ h]
theorem set5_ext {w w':World} (h:Ext w w') (g:Nat) (hg:w.heap.size≤g) (k n:Int) (re im:Nat) (s:ByteArray) (a:Option Addr) (l c:Nat):Ext w (set5 w' g k n re im s a l c) :=
 ((((h.set hg _).set hg _).set hg _).set hg _).set hg _
def Ans (f:FuncId) (args:Array Value) (w:World) (y:PV) (x:Int):Prop :=
 Calls Tryz.prog f args w fun e w' => ∃ r,e = .returned (.tuple #[r,.int .i64 x])∧Rep w' (Fresh w w') y r∧Ext w w'
theorem ans5 {w w1 w2:World} {y:PV} {k n:Int} {re im:Nat} {s:ByteArray} {a:Option Addr} {l c:Nat} (x:Int) (g:Nat) (h01:Ext w w1) (hg:w.heap.size≤g) (hg2:g < w1.heap.size) (h12:Ext w1 w2)
  (hr:Rep w2 (Fresh w1 w2) y (.agg #[.int .i64 k,.int .i64 n,.complex .f64 re im,.string s,.slice a l c])) :
  ∃ r,Ending.returned (.tuple #[.agg #[.int .i64 k,.int .i64 n,.complex .f64 re im,.string s,.slice a l c],.int .i64 x]) = .returned (.tuple #[r,.int .i64 x])∧Rep (set5 w2 g k n re im s a l c) (Fresh w (set5 w2 g k n re im s a l c)) y r∧Ext w (set5 w2 g k n re im s a l c):=by
 refine⟨_,rfl,Rep.to (fun b hb=>⟨⟨?fa,?fb⟩,?fc⟩) _ _ hr,set5_ext (h01.trans h12) g hg _ _ _ _ _ _ _ _⟩
 case fa=>exact Nat.le_trans h01.le hb.1
 case fb=>rw[set5_size];exact hb.2
 case fc=>exact set5_other _ _ _ (by have:=hb.1;omega) _ _ _ _ _ _ _ _
structure Five (w:World) (g:Nat) (k n:Int) (re im:Nat) (s:ByteArray) (a:Option Addr) (l c:Nat):Prop where
 c0:w.cell? ⟨g,0,none⟩=some (.int .i64 k)
 c1:w.cell? ⟨g,1,none⟩=some (.int .i64 n)
 c2:w.cell? ⟨g,2,none⟩=some (.complex .f64 re im)
 c3:w.cell? ⟨g,3,none⟩=some (.string s)
 c4:w.cell? ⟨g,4,none⟩=some (.slice a l c)
 fz:∀ i,w.frozen? ⟨g,i,none⟩=false
theorem Five.new (w:World) (t:TypeId) (k n:Int) (re im:Nat) (s:ByteArray) (a:Option Addr) (l c:Nat):Five (w.alloc (.cells #[.int .i64 k,.int .i64 n,.complex .f64 re im,.string s,.slice a l c] t)) w.heap.size k n re im s a l c :=
 ⟨cell_box w _ t 0 rfl,cell_box w _ t 1 rfl,cell_box w _ t 2 rfl,cell_box w _ t 3 rfl,cell_box w _ t 4 rfl,frozen_box w _ t⟩
theorem Five.on {w w':World} {g:Nat} {k n:Int} {re im:Nat} {s:ByteArray} {a:Option Addr} {l c:Nat} (h:Five w g k n re im s a l c) (e:Ext w w'):Five w' g k n re im s a l c :=
 ⟨e.cell h.c0,e.cell h.c1,e.cell h.c2,e.cell h.c3,e.cell h.c4,fun i=>(Below.frozen e (p:=⟨g,i,none⟩) (World.block_lt_of_cell? w ⟨g,0,none⟩ h.c0)).trans (h.fz i)⟩
theorem binary_any (op:Int) (f:FuncId) (h1:1≤op) (h2:op≤14) (hf:∀ W:World,(Instr.index 181 (.agg binTab) (.int .i64 op)).run Tryz.prog W = .ok (fnV f) W) (hc:∀ (v u:Value) (W:World),(callFunc f #[v,u]).run Tryz.prog W = .ok (.enter f #[v,u]) W)
  (p q:PV) (v u:Value) (w:World) (hr:Rep w (In w) p v) (hq:Rep w (In w) q u) (y:PV) (x:Int)
  (hR:∀ W,Ext w W→Ans f #[if okv p then v else nilV,if okv q then u else nilV] W y x) :
  Ans 92 #[.int .i64 op,v,u] w y x:=by
 have CT:=zh (fun W (h:Ext w W)=>otaken_val p v W (hr.ext h));have CT':=zh (fun W (h:Ext w W)=>otaken_val q u W (hq.ext h));have HR:=zh hR;clear hR;generalize (if okv p=true then v else nilV)=v1 at CT HR
 generalize (if okv q=true then u else nilV)=u1 at CT' HR
 cases p with
 | mk k n re im s l =>
 cases q with
 | mk k' n' re' im' s' l' =>
 rw[Rep] at hr hq;obtain⟨a,cap,rfl,-,-⟩:=hr;obtain⟨a',cap',rfl,-,-⟩:=hq;unfold Ans;have HC:=zh hc;cases y with
 | mk ky ny rey imy sy ly =>
 clear hc
 go_enter Tryz.func92,Tryz.ntmps92
 go_wp2_with (first
  | (go_at_call 109;refine Calls.mono (arity_two _ _ (by omega) (by omega)) ?_;rintro e w0 ⟨rfl,rfl⟩)
  | (go_at_call 111;refine Calls.mono (binaries_any _) ?_;rintro e w1 ⟨rfl,hw1⟩;have FZ:=(Five.new _ _ _ _ _ _ _ _ _ _).on hw1;have y1:=(Ext.alloc _ _).trans hw1;have FB:=(Five.new _ _ _ _ _ _ _ _ _ _).on y1;have x1:=(Ext.alloc _ _).trans y1;have FA:=(Five.new _ _ _ _ _ _ _ _ _ _).on x1;simp only[heap_alloc_size] at FZ FB;have p0:=FA.c0;have p1:=FA.c1;have p2:=FA.c2;have p3:=FA.c3;have p4:=FA.c4;have q0:=FB.c0;have q1:=FB.c1;have q2:=FB.c2;have q3:=FB.c3;have q4:=FB.c4;have X0:=zh ((Ext.alloc _ _).trans x1);have A:=zh FA;have B:=zh FB;have Z:=zh FZ;clear hw1 x1 y1 FA FB FZ))
 have hzlt:w.heap.size+1+1 < w1.heap.size:=World.block_lt_of_cell? w1 _ (zu Z).c0;have DR:Hd (Ext w w1.drew):=Ext.drew (zu X0);have DD:Hd (Ext w1 w1.drew):=Ext.drew (Ext.refl _)
 go_region_law (first
  | (refine step_call_one rfl 112 (.tmp 19) 32 rfl _ (by simp[Act.eval,Act.put]) (enterOTaken _ _) (Calls.mono (zu CT _ ((zu X0).trans (zu D1))) ?_);rintro e w3 ⟨rfl,hw⟩;have D2:=zh ((zu D1).trans hw);clear hw;have fA:=(zu A).on (zu D2);have fB:=(zu B).on (zu D2);have p0:=fA.c0;have p1:=fA.c1;have p2:=fA.c2;have p3:=fA.c3;have p4:=fA.c4;have q0:=fB.c0;have q1:=fB.c1;have q2:=fB.c2;have q3:=fB.c3;have q4:=fB.c4;clear fA fB;refine⟨_,rfl,?_⟩)
  | (refine step_call_one rfl 112 (.tmp 19) 32 rfl _ (by simp[Act.eval,Act.put]) (enterOTaken _ _) (Calls.mono (zu CT _ (zu DR)) ?_);rintro e w2 ⟨rfl,hw⟩;have D1:=zh ((zu DD).trans hw);clear hw;have fA:=(zu A).on (zu D1);have fB:=(zu B).on (zu D1);have p0:=fA.c0;have p1:=fA.c1;have p2:=fA.c2;have p3:=fA.c3;have p4:=fA.c4;have q0:=fB.c0;have q1:=fB.c1;have q2:=fB.c2;have q3:=fB.c3;have q4:=fB.c4;clear fA fB;refine⟨_,rfl,?_⟩)
  | (refine step_call_one rfl 112 (.tmp 21) 32 rfl _ (by simp[Act.eval,Act.put]) (enterOTaken _ _) (Calls.mono (zu CT' _ ((zu X0).trans (zu D1))) ?_);rintro e w3 ⟨rfl,hw⟩;have D2:=zh ((zu D1).trans hw);clear hw;have fA:=(zu A).on (zu D2);have fB:=(zu B).on (zu D2);have p0:=fA.c0;have p1:=fA.c1;have p2:=fA.c2;have p3:=fA.c3;have p4:=fA.c4;have q0:=fB.c0;have q1:=fB.c1;have q2:=fB.c2;have q3:=fB.c3;have q4:=fB.c4;clear fA fB;refine⟨_,rfl,?_⟩)
  | (refine step_call_one rfl 112 (.tmp 21) 32 rfl _ (by simp[Act.eval,Act.put]) (enterOTaken _ _) (Calls.mono (zu CT' _ (zu DR)) ?_);rintro e w2 ⟨rfl,hw⟩;have D1:=zh ((zu DD).trans hw);clear hw;have fA:=(zu A).on (zu D1);have fB:=(zu B).on (zu D1);have p0:=fA.c0;have p1:=fA.c1;have p2:=fA.c2;have p3:=fA.c3;have p4:=fA.c4;have q0:=fB.c0;have q1:=fB.c1;have q2:=fB.c2;have q3:=fB.c3;have q4:=fB.c4;clear fA fB;refine⟨_,rfl,?_⟩)
  | (refine step_call_val2 rfl (.tmp 18) (.tmp 20) (.tmp 22) 32 32 rfl f _ _ (by simp[Act.eval,Act.put]) (by simp[Act.eval,Act.put]) (by simp[Act.eval,Act.put]) (zu HC _ _ _) (Calls.mono (zu HR _ ((zu X0).trans (zu D2))) ?_);rintro e w4 ⟨r,rfl,hr4,hw⟩;rw[Rep] at hr4;obtain⟨ay,cy,rfl,hby,hly⟩:=hr4;have D3:=zh ((zu D2).trans hw);have fZ:=(zu Z).on (zu D3);have z0:=fZ.c0;have z1:=fZ.c1;have z2:=fZ.c2;have z3:=fZ.c3;have z4:=fZ.c4;have zf:=fZ.fz;clear fZ;have BY:=zh hby;have LY:=zh hly;have W4:=zh hw;clear hby hly hw;refine⟨_,rfl,?_⟩))
 all_goals
  go_wp2_with fail
  have hlt3:=Nat.lt_of_lt_of_le hzlt (zu D2).le;exact bodyPost_ret (v:=.tuple #[.agg #[.int .i64 ky,.int .i64 ny,.complex .f64 rey imy,.string sy,.slice ay ly.length cy],.int .i64 x]) (by simp[results,Tryz.results92,go_sem,z0,z1,z2,z3,z4]) rfl
   (ans5 x (w.heap.size+1+1) ((zu X0).trans (zu D2)) (by omega) hlt3 (zu W4) (by rw[Rep];exact⟨ay,cy,rfl,zu BY,zu LY⟩))
theorem unary_any (op:Int) (f:FuncId) (h1:15≤op) (h2:op≤20) (hf:∀ W:World,(Instr.index 185 (.agg unTab) (.int .i64 op)).run Tryz.prog W = .ok (fnV f) W) (hc:∀ (v:Value) (W:World),(callFunc f #[v]).run Tryz.prog W = .ok (.enter f #[v]) W)
  (p:PV) (v:Value) (w:World) (hr:Rep w (In w) p v) (y:PV) (x:Int)
  (hR:∀ W,Ext w W→Ans f #[if okv p then v else nilV] W y x) :
  Ans 93 #[.int .i64 op,v] w y x:=by
 have CT:=zh (fun W (h:Ext w W)=>otaken_val p v W (hr.ext h));have HR:=zh hR;clear hR;generalize (if okv p=true then v else nilV)=v1 at CT HR
 cases p with
 | mk k n re im s l =>
 rw[Rep] at hr;obtain⟨a,cap,rfl,-,-⟩:=hr;unfold Ans;cases y with
 | mk ky ny rey imy sy ly =>
 go_enter Tryz.func93,Tryz.ntmps93
 go_wp2_with (first
  | (go_at_call 109;refine Calls.mono (arity_one _ _ (by omega) (by omega)) ?_;rintro e w0 ⟨rfl,rfl⟩)
  | (go_at_call 113;refine Calls.mono (unaries_any _) ?_;rintro e w1 ⟨rfl,hw1⟩;have FZ:=(Five.new _ _ _ _ _ _ _ _ _ _).on hw1;have y1:=(Ext.alloc _ _).trans hw1;have FA:=(Five.new _ _ _ _ _ _ _ _ _ _).on y1;simp only[heap_alloc_size] at FZ;have p0:=FA.c0;have p1:=FA.c1;have p2:=FA.c2;have p3:=FA.c3;have p4:=FA.c4;have X0:=zh ((Ext.alloc _ _).trans y1);have Z:=zh FZ;clear hw1 y1 FA FZ)
  | (go_at_call 112;refine Calls.mono (zu CT _ (zu X0)) ?_;rintro e w2 ⟨rfl,hw2⟩;have X2:=zh ((zu X0).trans hw2);have Z2:=zh ((zu Z).on hw2);clear hw2)
  | (refine Calls.mono (zu HR _ (zu X2)) ?_;rintro e w4 ⟨r,rfl,hr4,hw⟩;rw[Rep] at hr4;obtain⟨ay,cy,rfl,hby,hly⟩:=hr4;have fZ:=(zu Z2).on hw;have z0:=fZ.c0;have z1:=fZ.c1;have z2:=fZ.c2;have z3:=fZ.c3;have z4:=fZ.c4;have zf:=fZ.fz;clear fZ;have BY:=zh hby;have LY:=zh hly;have W4:=zh hw;clear hby hly hw))
 have hlt3:w.heap.size+1 < w2.heap.size:=World.block_lt_of_cell? w2 _ (zu Z2).c0;exact bodyPost_ret (v:=.tuple #[.agg #[.int .i64 ky,.int .i64 ny,.complex .f64 rey imy,.string sy,.slice ay ly.length cy],.int .i64 x]) (by simp[results,Tryz.results93,go_sem,z0,z1,z2,z3,z4]) rfl
  (ans5 x (w.heap.size+1) (zu X2) (by omega) hlt3 (zu W4) (by rw[Rep];exact⟨ay,cy,rfl,zu BY,zu LY⟩))
end V
namespace V
theorem rep_it (w:World) (F:Nat→Prop) (n:Int) (h1:-9223372036854775808≤n) (h2:n≤9223372036854775807) (a:Option Addr) (c:Nat):Rep w F (it n) (.agg #[.int .i64 1,.int .i64 n,.complex .f64 0 0,.string ⟨#[]⟩,.slice a 0 c]):=by
 rw[it,Rep];exact⟨a,c,rfl,⟨by decide,by decide,h1,h2,by decide,by decide,by decide,by decide,Nat.zero_le _⟩,by simp[RepL]⟩
theorem wrap_lo (n:Int):-9223372036854775808≤wrap64 n:=by unfold wrap64;omega
theorem wrap_hi (n:Int):wrap64 n≤9223372036854775807:=by unfold wrap64;omega
theorem rep_wrap (w:World) (F:Nat→Prop) (n:Int):Rep w F (it (wrap64 n)) (.agg #[.int .i64 1,.int .i64 (wrap64 n),.complex .f64 0 0,.string ⟨#[]⟩,.slice none 0 0]):=rep_it w F _ (wrap_lo n) (wrap_hi n) none 0
theorem add_ints (n n':Int) (re im re' im':Nat) (s s':ByteArray) (a a':Option Addr) (l c l' c':Nat) (w:World) :
  Ans 125 #[.agg #[.int .i64 1,.int .i64 n,.complex .f64 re im,.string s,.slice a l c],.agg #[.int .i64 1,.int .i64 n',.complex .f64 re' im',.string s',.slice a' l' c']] w (it (wrap64 (n+n'))) 0:=by
 have hb:=fun W=>both_any 1 1 n 1 n' re im re' im' s s' a a' l c l' c' W;simp only[decide_true,Bool.and_self] at hb;have B:=zh hb;clear hb;unfold Ans
 go_enter Tryz.func125,Tryz.ntmps125
 go_wp2_with (first
  | (go_at_call 151;refine Calls.mono (zu B _) ?_;rintro e w1 ⟨rfl,hw1⟩;have FZ:=(Five.new _ _ _ _ _ _ _ _ _ _).on hw1;have y1:=(Ext.alloc _ _).trans hw1;have FB:=(Five.new _ _ _ _ _ _ _ _ _ _).on y1;have x1:=(Ext.alloc _ _).trans y1;have FA:=(Five.new _ _ _ _ _ _ _ _ _ _).on x1;simp only[heap_alloc_size] at FZ FB;have p0:=FA.c0;have p1:=FA.c1;have p2:=FA.c2;have p3:=FA.c3;have p4:=FA.c4;have q0:=FB.c0;have q1:=FB.c1;have q2:=FB.c2;have q3:=FB.c3;have q4:=FB.c4;have X0:=zh ((Ext.alloc _ _).trans x1);have Z:=zh FZ;clear hw1 x1 y1 FA FB FZ)
  | (go_at_call 115;refine Calls.mono (int_any _ _) ?_;rintro e w2 ⟨rfl,hw2⟩;have fZ:=(zu Z).on hw2;have z0:=fZ.c0;have z1:=fZ.c1;have z2:=fZ.c2;have z3:=fZ.c3;have z4:=fZ.c4;have zf:=fZ.fz;clear fZ;have W2:=zh hw2;clear hw2))
 exact bodyPost_ret (v:=.tuple #[.agg #[.int .i64 1,.int .i64 (wrap64 (n+n')),.complex .f64 0 0,.string ⟨#[]⟩,.slice none 0 0],.int .i64 0]) (by simp[results,Tryz.results125,go_sem,z0,z1,z2,z3,z4]) rfl (ans5 0 (w.heap.size+1+1) (zu X0) (by omega) (World.block_lt_of_cell? _ _ (zu Z).c0) (zu W2) (rep_wrap _ _ _))
theorem sub_ints (n n':Int) (re im re' im':Nat) (s s':ByteArray) (a a':Option Addr) (l c l' c':Nat) (w:World) :
  Ans 126 #[.agg #[.int .i64 1,.int .i64 n,.complex .f64 re im,.string s,.slice a l c],.agg #[.int .i64 1,.int .i64 n',.complex .f64 re' im',.string s',.slice a' l' c']] w (it (wrap64 (n - n'))) 0:=by
 have hb:=fun W=>both_any 1 1 n 1 n' re im re' im' s s' a a' l c l' c' W;simp only[decide_true,Bool.and_self] at hb;have B:=zh hb;clear hb;unfold Ans
 go_enter Tryz.func126,Tryz.ntmps126
 go_wp2_with (first
  | (go_at_call 151;refine Calls.mono (zu B _) ?_;rintro e w1 ⟨rfl,hw1⟩;have FZ:=(Five.new _ _ _ _ _ _ _ _ _ _).on hw1;have y1:=(Ext.alloc _ _).trans hw1;have FB:=(Five.new _ _ _ _ _ _ _ _ _ _).on y1;have x1:=(Ext.alloc _ _).trans y1;have FA:=(Five.new _ _ _ _ _ _ _ _ _ _).on x1;simp only[heap_alloc_size] at FZ FB;have p0:=FA.c0;have p1:=FA.c1;have p2:=FA.c2;have p3:=FA.c3;have p4:=FA.c4;have q0:=FB.c0;have q1:=FB.c1;have q2:=FB.c2;have q3:=FB.c3;have q4:=FB.c4;have X0:=zh ((Ext.alloc _ _).trans x1);have Z:=zh FZ;clear hw1 x1 y1 FA FB FZ)
  | (go_at_call 115;refine Calls.mono (int_any _ _) ?_;rintro e w2 ⟨rfl,hw2⟩;have fZ:=(zu Z).on hw2;have z0:=fZ.c0;have z1:=fZ.c1;have z2:=fZ.c2;have z3:=fZ.c3;have z4:=fZ.c4;have zf:=fZ.fz;clear fZ;have W2:=zh hw2;clear hw2))
 exact bodyPost_ret (v:=.tuple #[.agg #[.int .i64 1,.int .i64 (wrap64 (n - n')),.complex .f64 0 0,.string ⟨#[]⟩,.slice none 0 0],.int .i64 0]) (by simp[results,Tryz.results126,go_sem,z0,z1,z2,z3,z4]) rfl (ans5 0 (w.heap.size+1+1) (zu X0) (by omega) (World.block_lt_of_cell? _ _ (zu Z).c0) (zu W2) (rep_wrap _ _ _))
theorem cmpnan_any (n:Int) (w:World):Calls Tryz.prog 187 #[.int .i64 n] w fun e w'=>e = .returned (.bool false)∧w' = w:=by
 go_enter Tryz.func187,Tryz.ntmps187
 go_wp2_with fail
 go_ret;exact⟨rfl,rfl⟩
theorem compare_any (n n':Int) (w:World):Calls Tryz.prog 181 #[.int .i64 n,.int .i64 n'] w fun e w'=>e = .returned (.int .i64 (if n < n' then -1 else if n' < n then 1 else 0))∧w' = w:=by
 rcases (show n < n'∨(n' < n∧¬ n < n')∨(¬ n < n'∧¬ n' < n) by omega) with h | ⟨h,h2⟩ | ⟨h2,h⟩
 all_goals
  go_enter Tryz.func181,Tryz.ntmps181
  go_wp2_with (go_at_call 187;refine Calls.mono (cmpnan_any _ _) ?_;rintro e w3 ⟨rfl,rfl⟩)
  go_ret;exact⟨by simp[*],rfl⟩
theorem less_any (n:Int) (w:World):Calls Tryz.prog 163 #[.int .i64 n] w fun e w'=>e = .returned (.bool (decide (n < 0)))∧w' = w:=by
 go_enter Tryz.func163,Tryz.ntmps163
 go_wp2_with fail
 go_ret;exact⟨rfl,rfl⟩
theorem ordered_ints (n n':Int) (re im re' im':Nat) (s s':ByteArray) (a a':Option Addr) (l c l' c':Nat) (w:World) (b:Bool) (hbl:decide (n < n')=b) :
  Ans 162 #[.agg #[.int .i64 1,.int .i64 n,.complex .f64 re im,.string s,.slice a l c],.agg #[.int .i64 1,.int .i64 n',.complex .f64 re' im',.string s',.slice a' l' c'],fnV 163] w (it (if b then 1 else 0)) 0:=by
 have hb:=fun W=>both_any 1 1 n 1 n' re im re' im' s s' a a' l c l' c' W;simp only[decide_true,Bool.and_self] at hb;have B:=zh hb;clear hb;unfold Ans;obtain⟨d,hd⟩:∃ d:Int,d=if n < n' then -1 else if n' < n then 1 else 0:=⟨_,rfl⟩
 have he:decide (d < 0)=b:=by
  rw[hd,← hbl,decide_eq_decide]
  split
  ·omega
  ·split <;> omega
 have CM:=zh (fun W=>hd ▸ compare_any n n' W);have HE:=zh (fun W=>he ▸ less_any d W);clear hd he hbl;cases b
 all_goals
  go_enter Tryz.func162,Tryz.ntmps162
  go_wp2_with (first
  | (go_at_call 151;refine Calls.mono (zu B _) ?_;rintro e w1 ⟨rfl,hw1⟩;have FZ:=(Five.new _ _ _ _ _ _ _ _ _ _).on hw1;have y1:=(Ext.alloc _ _).trans hw1;have FB:=(Five.new _ _ _ _ _ _ _ _ _ _).on y1;have x1:=(Ext.alloc _ _).trans y1;have FA:=(Five.new _ _ _ _ _ _ _ _ _ _).on x1;simp only[heap_alloc_size] at FZ FB;have p0:=FA.c0;have p1:=FA.c1;have p2:=FA.c2;have p3:=FA.c3;have p4:=FA.c4;have q0:=FB.c0;have q1:=FB.c1;have q2:=FB.c2;have q3:=FB.c3;have q4:=FB.c4;have X0:=zh ((Ext.alloc _ _).trans x1);have Z:=zh FZ;clear hw1 x1 y1 FA FB FZ)
  | (go_at_call 181;refine Calls.mono (zu CM _) ?_;rintro e w3 ⟨rfl,rfl⟩)
  | (go_at_call 163;refine Calls.mono (zu HE _) ?_;rintro e w3 ⟨rfl,rfl⟩)
  | (go_at_call 160;refine Calls.mono (told_any _ _) ?_;rintro e w2 ⟨rfl,hw2⟩;have fZ:=(zu Z).on hw2;have z0:=fZ.c0;have z1:=fZ.c1;have z2:=fZ.c2;have z3:=fZ.c3;have z4:=fZ.c4;have zf:=fZ.fz;clear fZ;have W2:=zh hw2;clear hw2))
 ·exact bodyPost_ret (v:=.tuple #[.agg #[.int .i64 1,.int .i64 0,.complex .f64 0 0,.string ⟨#[]⟩,.slice none 0 0],.int .i64 0]) (by simp[results,Tryz.results162,go_sem,z0,z1,z2,z3,z4]) rfl (ans5 0 (w.heap.size+1+1) (zu X0) (by omega) (World.block_lt_of_cell? _ _ (zu Z).c0) (zu W2) (rep_it _ _ _ (by decide) (by decide) _ _))
 ·exact bodyPost_ret (v:=.tuple #[.agg #[.int .i64 1,.int .i64 1,.complex .f64 0 0,.string ⟨#[]⟩,.slice none 0 0],.int .i64 0]) (by simp[results,Tryz.results162,go_sem,z0,z1,z2,z3,z4]) rfl (ans5 0 (w.heap.size+1+1) (zu X0) (by omega) (World.block_lt_of_cell? _ _ (zu Z).c0) (zu W2) (rep_it _ _ _ (by decide) (by decide) _ _))
theorem below_ints (n n':Int) (re im re' im':Nat) (s s':ByteArray) (a a':Option Addr) (l c l' c':Nat) (w:World) (b:Bool) (hbl:decide (n < n')=b) :
  Ans 132 #[.agg #[.int .i64 1,.int .i64 n,.complex .f64 re im,.string s,.slice a l c],.agg #[.int .i64 1,.int .i64 n',.complex .f64 re' im',.string s',.slice a' l' c']] w (it (if b then 1 else 0)) 0:=by
 have hb:=fun W=>ordered_ints n n' re im re' im' s s' a a' l c l' c' W b hbl;unfold Ans at hb ⊢;generalize (if b=true then (1:Int) else 0)=t at hb ⊢
 have B:=zh hb;clear hb hbl
 go_enter Tryz.func132,Tryz.ntmps132
 go_wp2_with (go_at_call 162;refine Calls.mono (zu B _) ?_;rintro e w2 ⟨r,rfl,hr,hw2⟩;rw[it,Rep] at hr;obtain⟨ay,cy,rfl,hby,hly⟩:=hr;have fZ:=(Five.new _ _ _ _ _ _ _ _ _ _).on hw2;simp only[heap_alloc_size] at fZ;have z0:=fZ.c0;have z1:=fZ.c1;have z2:=fZ.c2;have z3:=fZ.c3;have z4:=fZ.c4;have zf:=fZ.fz;clear fZ;have BY:=zh hby;clear hby hly;have W2:=zh hw2;clear hw2)
 exact bodyPost_ret (v:=.tuple #[.agg #[.int .i64 1,.int .i64 t,.complex .f64 0 0,.string ⟨#[]⟩,.slice ay 0 cy],.int .i64 0]) (by simp[results,Tryz.results132,go_sem,z0,z1,z2,z3,z4]) rfl (ans5 0 (w.heap.size+1+1) (((Ext.alloc _ _).trans (Ext.alloc _ _)).trans (Ext.alloc _ _)) (by omega) (by simp) (zu W2) (by rw[it,Rep];exact⟨ay,cy,rfl,zu BY,by simp[RepL]⟩))
end V
namespace V
theorem bin_add (n n':Int) (a a':Option Addr) (c c':Nat) (w:World) (h1:-9223372036854775808≤n) (h2:n≤9223372036854775807) (h3:-9223372036854775808≤n') (h4:n'≤9223372036854775807) :
  Ans 92 #[.int .i64 1,.agg #[.int .i64 1,.int .i64 n,.complex .f64 0 0,.string ⟨#[]⟩,.slice a 0 c],.agg #[.int .i64 1,.int .i64 n',.complex .f64 0 0,.string ⟨#[]⟩,.slice a' 0 c']] w (it (wrap64 (n+n'))) 0:=by
 refine binary_any 1 125 (by decide) (by decide) (fun W=>by kernel_rfl) (fun v u W=>by kernel_rfl) (it n) (it n') _ _ w (rep_it _ _ _ h1 h2 _ _) (rep_it _ _ _ h3 h4 _ _) _ _ fun W _ => ?_;rw[okv_it,okv_it,if_pos rfl,if_pos rfl];exact add_ints n n' 0 0 0 0 ⟨#[]⟩ ⟨#[]⟩ a a' 0 c 0 c' W
theorem bin_sub (n n':Int) (a a':Option Addr) (c c':Nat) (w:World) (h1:-9223372036854775808≤n) (h2:n≤9223372036854775807) (h3:-9223372036854775808≤n') (h4:n'≤9223372036854775807) :
  Ans 92 #[.int .i64 2,.agg #[.int .i64 1,.int .i64 n,.complex .f64 0 0,.string ⟨#[]⟩,.slice a 0 c],.agg #[.int .i64 1,.int .i64 n',.complex .f64 0 0,.string ⟨#[]⟩,.slice a' 0 c']] w (it (wrap64 (n - n'))) 0:=by
 refine binary_any 2 126 (by decide) (by decide) (fun W=>by kernel_rfl) (fun v u W=>by kernel_rfl) (it n) (it n') _ _ w (rep_it _ _ _ h1 h2 _ _) (rep_it _ _ _ h3 h4 _ _) _ _ fun W _ => ?_;rw[okv_it,okv_it,if_pos rfl,if_pos rfl];exact sub_ints n n' 0 0 0 0 ⟨#[]⟩ ⟨#[]⟩ a a' 0 c 0 c' W
theorem bin_lt (n n':Int) (a a':Option Addr) (c c':Nat) (w:World) (h1:-9223372036854775808≤n) (h2:n≤9223372036854775807) (h3:-9223372036854775808≤n') (h4:n'≤9223372036854775807) (b:Bool) (hb:decide (n < n')=b) :
  Ans 92 #[.int .i64 8,.agg #[.int .i64 1,.int .i64 n,.complex .f64 0 0,.string ⟨#[]⟩,.slice a 0 c],.agg #[.int .i64 1,.int .i64 n',.complex .f64 0 0,.string ⟨#[]⟩,.slice a' 0 c']] w (it (if b then 1 else 0)) 0:=by
 refine binary_any 8 132 (by decide) (by decide) (fun W=>by kernel_rfl) (fun v u W=>by kernel_rfl) (it n) (it n') _ _ w (rep_it _ _ _ h1 h2 _ _) (rep_it _ _ _ h3 h4 _ _) _ _ fun W _ => ?_;rw[okv_it,okv_it,if_pos rfl,if_pos rfl];exact below_ints n n' 0 0 0 0 ⟨#[]⟩ ⟨#[]⟩ a a' 0 c 0 c' W b hb
end V
namespace V
structure SFr where
 fn:Nat
 pc:Nat
 vs:List PV
structure SEv where
 k:Int
 n:Int
 v:PV
structure SMc where
 fr:List SFr
 fu:Int
 ev:List SEv
def isIt (p:PV):Option Int:=if p.k=1∧p.re=0∧p.im=0∧p.s=⟨#[]⟩∧p.l.length=0 then some p.n else none
theorem isIt_some {p:PV} {n:Int} (h:isIt p=some n):p=it n:=by
 unfold isIt at h
 split at h
 ·rename_i hp
  injection h with h;obtain⟨k,m,re,im,s,l⟩:=p;obtain⟨h1,h2,h3,h4,h5⟩:=hp;simp only at h h1 h2 h3 h4 h5;subst h h1 h2 h3 h4;rw[List.length_eq_zero_iff.1 h5];rfl
 ·cases h
def sBin (o:Int) (p q:PV):Option PV:=match isIt p with
 | none=>none
 | some n=>match isIt q with
  | none=>none
  | some m=>if o=1 then some (it (wrap64 (n+m))) else if o=2 then some (it (wrap64 (n - m))) else if o=6 then some (it (if n=m then 1 else 0)) else if o=8 then some (it (if n < m then 1 else 0)) else none
def sPop (vs:List PV):Option (List PV × PV):=match vs.getLast? with
 | none=>none
 | some v=>some (vs.dropLast,v)
theorem sPop_some {vs us:List PV} {v:PV} (h:sPop vs=some (us,v)):vs=us++[v]:=by
 unfold sPop at h;cases hv:vs.getLast? with
 | none=>rw[hv] at h;cases h
 | some u =>
  rw[hv] at h;injection h with h;injection h with h1 h2;subst h1 h2;have hne:vs≠[]:=fun e=>by rw[e] at hv;cases hv
  rw[List.getLast?_eq_some_getLast hne] at hv;injection hv with hv;rw[← hv];exact(List.dropLast_concat_getLast hne).symm
def SMc.tell (s:SMc) (e:SEv):SMc × Int:=if s.fu < 1 then (s,6) else (⟨s.fr,s.fu - 1,s.ev++[e]⟩,0)
def sLen:List SFr→Nat
 | [] => 0
 | c :: r=>sLen r+c.vs.length
def sIns (fns:List KF) (f:KF) (i:KI) (c:SFr) (r:List SFr) (s:SMc):Option (SMc × Int) :=
 if i.op=1 then (match f.cs[i.a.toNat]? with
  | none=>none
  | some v=>if 0≤i.a then some (⟨⟨c.fn,c.pc+1,c.vs++[v]⟩ :: r,s.fu,s.ev⟩,0) else none)
 else if i.op=2 then (match c.vs[i.a.toNat]? with
  | none=>none
  | some v=>if 0≤i.a then some (⟨⟨c.fn,c.pc+1,c.vs++[v]⟩ :: r,s.fu,s.ev⟩,0) else none)
 else if i.op=3 then (match sPop c.vs with
  | none=>none
  | some (us,v)=>if 0≤i.a∧i.a.toNat < us.length then some (⟨⟨c.fn,c.pc+1,us.set i.a.toNat v⟩ :: r,s.fu,s.ev⟩,0) else none)
 else if i.op=4 then (match sPop c.vs with
  | none=>none
  | some (us,v)=>some (⟨⟨c.fn,c.pc+1,us⟩ :: r,s.fu,s.ev⟩,0))
 else if i.op=5 then (match sPop c.vs with
  | none=>none
  | some (us,q)=>match sPop us with
   | none=>none
   | some (ts,p)=>match sBin i.a p q with
    | none=>none
    | some v=>some (⟨⟨c.fn,c.pc+1,ts++[v]⟩ :: r,s.fu,s.ev⟩,0))
 else if i.op=6 then (match sPop c.vs with
  | none=>none
  | some (us,p)=>if i.a=16 then some (⟨⟨c.fn,c.pc+1,us++[it (if truev (tk p) then 0 else 1)]⟩ :: r,s.fu,s.ev⟩,0) else none)
 else if i.op=7 then (if 0≤i.a∧i.a≤1000000 then some (⟨⟨c.fn,i.a.toNat,c.vs⟩ :: r,s.fu,s.ev⟩,0) else none)
 else if i.op=8 then (match sPop c.vs with
  | none=>none
  | some (us,v)=>if 0≤i.a∧i.a≤1000000 then some (⟨⟨c.fn,if truev (tk v) then c.pc+1 else i.a.toNat,us⟩ :: r,s.fu,s.ev⟩,0) else none)
 else if i.op=9 then (match fns[i.a.toNat]? with
  | none=>none
  | some h=>if 0≤i.a∧0≤h.ps∧h.ps≤h.lc∧h.lc≤1000∧h.ps.toNat≤c.vs.length then some (⟨⟨i.a.toNat,0,c.vs.drop (c.vs.length - h.ps.toNat)++List.replicate (h.lc - h.ps).toNat nilP⟩ :: ⟨c.fn,c.pc+1,c.vs.take (c.vs.length - h.ps.toNat)⟩ :: r,s.fu,s.ev⟩,0) else none)
 else if i.op=10 then (match sPop c.vs with
  | none=>none
  | some (_,v)=>match r with
   | []=>some (⟨[⟨0,0,[v]⟩],s.fu,s.ev⟩,-1)
   | d :: q=>some (⟨⟨d.fn,d.pc,d.vs++[v]⟩ :: q,s.fu,s.ev⟩,0))
 else if i.op=11 then (match sPop c.vs with
  | none=>none
  | some (us,v)=>some (SMc.tell ⟨⟨c.fn,c.pc+1,us⟩ :: r,s.fu,s.ev⟩ ⟨2,0,cp v⟩))
 else if i.op=12 then some (SMc.tell ⟨⟨c.fn,c.pc+1,c.vs⟩ :: r,s.fu,s.ev⟩ ⟨1,i.a,nilP⟩)
 else none
def sStep (fns:List KF) (s:SMc):Option (SMc × Int):=match s.fr with
 | []=>none
 | c :: r=>if 1000000 < sLen s.fr∨1000000 < s.fr.length∨1000000 < s.ev.length then none else match fns[c.fn]? with
  | none=>none
  | some f=>match f.code[c.pc]? with
   | none=>none
   | some i=>sIns fns f i c r s
end V
end Go.Proofs.YtjnpehohialmbaaGreat
