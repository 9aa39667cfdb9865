/- The machine with a stack: Run. -/
import Derived.Test.YtdnclahaejlehaaGreatZk41
set_option linter.unusedSimpArgs false
set_option linter.unusedVariables false
set_option maxRecDepth 10000
set_option maxHeartbeats 1000000
namespace Go.Proofs.YtdnclahaejlehaaGreat
open Go.RowKit
namespace V
variable {w w' w2:World} {h:SHd}
theorem fr23S (T:Array Value) (h:T.size=23):∃ u:Nat→Value,T = #[u 0,u 1,u 2,u 3,u 4,u 5,u 6,u 7,u 8,u 9,u 10,u 11,u 12,u 13,u 14,u 15,u 16,u 17,u 18,u 19,u 20,u 21,u 22]:=by
 refine⟨fun i=>T.getD i undef,?_⟩;have e:T=((List.range T.size).map (fun i=>T.getD i undef)).toArray:=by
  apply Array.ext
  ·simp
  ·intro i h1 h2
   simp[h1]
 rw[h] at e;exact e
theorem wp_midS {P:Program} {c:Code} {Q:Exit→Act→World→Prop} {a:Act} {w:World} (M:Act→World→Prop) (h1:Code.wp P c (Nrm (fun _ a' w'=>M a' w')) a w) (h2:∀ a' w',M a' w'→Q .normal a' w'):Code.wp P c Q a w:=by
 refine Code.wp_mono (fun e a' w' hq => ?_) h1;cases e <;> first | exact h2 _ _ hq | exact hq.elim
theorem alloc3 (w:World) (A B C:Obj):(((w.alloc A).alloc B).alloc C).drew.heap[w.heap.size]? = some A∧(((w.alloc A).alloc B).alloc C).drew.heap[w.heap.size+1]? = some B∧(((w.alloc A).alloc B).alloc C).drew.heap[w.heap.size+1+1]? = some C∧Ext w (((w.alloc A).alloc B).alloc C).drew:=by
 have e1:(w.alloc A).heap.size=w.heap.size+1:=by simp
 have e2:((w.alloc A).alloc B).heap.size=w.heap.size+1+1:=by simp
 refine⟨((Ext.alloc ((w.alloc A).alloc B) C).row ((Ext.alloc (w.alloc A) B).row (Go.heap_alloc_new w A))),?_,?_,((Ext.alloc _ _).trans (Ext.alloc _ _)).trans (Ext.drew (Ext.alloc _ _))⟩
 ·have:=Go.heap_alloc_new (w.alloc A) B
  rw[e1] at this;exact(Ext.alloc ((w.alloc A).alloc B) C).row this
 ·have:=Go.heap_alloc_new ((w.alloc A).alloc B) C
  rw[e2] at this;exact this
theorem SB.ini {L g r nb:Nat} {fa:Option Addr} {fl fc:Nat} {fu:Int} (hg:w.heap[g]? = some (.cells #[.slice fa fl fc,.slice none 0 0,.slice none 0 0,.pointer (some ⟨nb,0,none⟩),.pointer (some ⟨r,0,none⟩)] 66 (0,0))) (hr:w.heap[r]? = some (rcO fu none 0 0)) (hLg:L≤g) (hLr:L≤r):SB ⟨L,w.heap.size,g,r,fa,fl,fc,⟨nb,0,none⟩⟩ w [] [] fu 0 [] ⟨none,0,none,0,none,0⟩ :=
 ⟨hg,hr,World.ownsRow_nil _ _ _ _,World.ownsRow_nil _ _ _ _,World.ownsRow_nil _ _ _ _,⟨hLg,(Array.getElem?_eq_some_iff.1 hg).1⟩,⟨hLr,(Array.getElem?_eq_some_iff.1 hr).1⟩,Nat.le_refl _⟩
theorem PtV.ini {L nb:Nat} (hn:w.heap[nb]? = some (.cells #[.int .i64 0,.int .i64 0,.complex .f64 0 0,.string ⟨#[]⟩,.slice none 0 0] 33 (0,0))):PtV L w ⟨nb,0,none⟩ nilP :=
 ⟨nb,0,none,0,rfl,⟨⟨(Array.getElem?_eq_some_iff.1 hn).1,Or.inr ⟨_,_,_,hn,notT5⟩⟩,zr hn 0 rfl,zr hn 1 rfl,zr hn 2 rfl,zr hn 3 rfl,zr hn 4 rfl,by constructor <;> decide,by simp[nilP,RepL]⟩⟩
theorem enterWith (v:Value) (w:World):(callFunc 17 #[v]).run Tryz.prog w = .ok (.enter 17 #[v]) w:=by kernel_rfl
theorem svmrun_m (fns:List KF) (pa:Option Addr) (pc main K Kc:Nat) (f:KF) (s1:SMc) (e:Int) (q v:PV) (hf:fns[main]? = some f) (lc:Nat) (hps:f.ps=0) (hlc:f.lc=(lc:Int)) (hlb:lc≤1000) (fuel:Int) (hp:RepP w (In w) pa fns) (hB:∀ f ∈ fns,f.code.length≤1000000) (hN:fns.length≤1000000) (hKf:KfB fns) (hKc:Kc≤1000000) (hck:kChk fns (main:Int) Kc=some 0)
  (hg:sGo fns K ⟨[⟨main,0,List.replicate lc nilP⟩],min fuel 100000,[]⟩=some (s1,e)) (he1:e = -1→flV s1.fr = [v]∧q=cp v) (he2:e≠-1→q=nilP):Calls Tryz.prog 9 #[kpV pa fns.length pc (main:Int),.int .i64 fuel] w fun en w'=>Ext w w'∧∃ ea ec a cap,en = .returned (.tuple #[trV ea s1.ev.length ec (.int .i64 q.k) (.int .i64 q.n) (.complex .f64 q.re q.im) (.string q.s) (.slice a q.l.length cap) (if e = -1 then 0 else e),.int .i64 0])∧EvAt w' ea s1.ev:=by
 obtain⟨er,her⟩:∃ er:Int,(if e = -1 then (0:Int) else e)=er:=⟨_,rfl⟩
 rw[her];have HER:=zh her;clear her;obtain⟨W0,hW0⟩:∃ W0,W0=(w.alloc (.cells #[.slice pa fns.length pc,.int .i64 (main:Int)] 26)).alloc (.cells #[.slice none 0 0,.int .i64 0,.int .i64 0,.complex .f64 0 0,.string ⟨#[]⟩,.slice none 0 0,.int .i64 0] 36):=⟨_,rfl⟩;have X0:Ext w W0:=by rw[hW0];exact(Ext.alloc _ _).trans (Ext.alloc _ _)
 have rP:W0.heap[w.heap.size]? = some (.cells #[.slice pa fns.length pc,.int .i64 (main:Int)] 26 (0,0)):=by rw[hW0];exact(Ext.alloc _ _).row (Go.heap_alloc_new w _)
 have rT:W0.heap[w.heap.size+1]? = some (.cells #[.slice none 0 0,.int .i64 0,.int .i64 0,.complex .f64 0 0,.string ⟨#[]⟩,.slice none 0 0,.int .i64 0] 36 (0,0)):=by
  rw[hW0];have:=Go.heap_alloc_new (w.alloc (.cells #[.slice pa fns.length pc,.int .i64 (main:Int)] 26)) (.cells #[.slice none 0 0,.int .i64 0,.int .i64 0,.complex .f64 0 0,.string ⟨#[]⟩,.slice none 0 0,.int .i64 0] 36)
  simpa using this
 have HC:=zh (check_sw fns pa pc (main:Int) Kc 0 W0 (hp.ext X0) hN hKf hKc hck);have HX0:=zh X0;have HW0:=zh hW0;have HRP:=zh rP;have HRT:=zh rT;have HP:=zh hp;have HG:=zh hg;have HE1:=zh he1;have HE2:=zh he2;clear hW0 X0 rP rT hp hg he1 he2 hck
 go_enter Tryz.func9,Tryz.ntmps9
 go_wp2_with (go_at_call 16;rw[← zu HW0];refine Calls.mono (zu HC) ?_;rintro en w4 ⟨rfl,hx4⟩;have p4:=hx4.row (zu HRP);have c0:=zr p4 0 rfl;have c1:=zr p4 1 rfl;have HT4:=zh (hx4.row (zu HRT));have HX4:=zh hx4;have HP4:=zh p4;clear hx4 p4)
 have a0:=fun ob=>(Ext.alloc w4 ob).cell c0;have a1:=fun ob ob2=>(Ext.alloc (w4.alloc ob) ob2).cell ((Ext.alloc w4 ob).cell c0);have a2:=fun ob ob2 ob3=>(Ext.alloc ((w4.alloc ob).alloc ob2) ob3).cell ((Ext.alloc (w4.alloc ob) ob2).cell ((Ext.alloc w4 ob).cell c0))
 refine wp_midS (fun a' w' => ∃ g r nb,a'.defers = []∧a'.tmps.size=23∧a'.tmps[2]? = some (.pointer (some ⟨w.heap.size,0,none⟩))∧a'.tmps[4]? = some (.pointer (some ⟨w.heap.size+1,0,none⟩))∧a'.tmps[7]? = some (.pointer (some ⟨g,0,none⟩))∧Ext w4 w'∧w'.heap[g]? = some (.cells #[.slice pa fns.length pc,.slice none 0 0,.slice none 0 0,.pointer (some ⟨nb,0,none⟩),.pointer (some ⟨r,0,none⟩)] 66 (0,0))∧w'.heap[r]? = some (rcO (min fuel 100000) none 0 0)∧w'.heap[nb]? = some (.cells #[.int .i64 0,.int .i64 0,.complex .f64 0 0,.string ⟨#[]⟩,.slice none 0 0] 33 (0,0))∧w4.heap.size≤g∧w4.heap.size≤r) ?_ ?_
 ·go_region_law (first
   | (refine step_call_one rfl 17 (.tmp 17) 3 rfl _ (by simp[Act.eval,Act.put]) (enterWith _ _) (Calls.mono (with_v fuel) ?_);rintro e5 w5 ⟨rfl,rfl⟩;refine⟨_,rfl,?_⟩))
  all_goals
   refine nrm_outW ?_;clear HER HC HX0 HW0 HRP HRT HP HG HE1 HE2 HT4 HX4 HP4 a0 a1 a2 c0 c1
   first
    | exact⟨_,_,_,rfl,rfl,rfl,rfl,rfl,(alloc3 _ _ _ _).2.2.2,(alloc3 _ _ _ _).1,(alloc3 _ _ _ _).2.1,(alloc3 _ _ _ _).2.2.1,by omega,by omega⟩
    | exact⟨_,_,_,rfl,rfl,rfl,rfl,rfl,(alloc3 _ _ _ _).2.2.2,(alloc3 _ _ _ _).1,(alloc3 _ _ _ _).2.2.1,(alloc3 _ _ _ _).2.1,by omega,by omega⟩
    | exact⟨_,_,_,rfl,rfl,rfl,rfl,rfl,(alloc3 _ _ _ _).2.2.2,(alloc3 _ _ _ _).2.1,(alloc3 _ _ _ _).1,(alloc3 _ _ _ _).2.2.1,by omega,by omega⟩
    | exact⟨_,_,_,rfl,rfl,rfl,rfl,rfl,(alloc3 _ _ _ _).2.2.2,(alloc3 _ _ _ _).2.1,(alloc3 _ _ _ _).2.2.1,(alloc3 _ _ _ _).1,by omega,by omega⟩
    | exact⟨_,_,_,rfl,rfl,rfl,rfl,rfl,(alloc3 _ _ _ _).2.2.2,(alloc3 _ _ _ _).2.2.1,(alloc3 _ _ _ _).1,(alloc3 _ _ _ _).2.1,by omega,by omega⟩
    | exact⟨_,_,_,rfl,rfl,rfl,rfl,rfl,(alloc3 _ _ _ _).2.2.2,(alloc3 _ _ _ _).2.2.1,(alloc3 _ _ _ _).2.1,(alloc3 _ _ _ _).1,by omega,by omega⟩
 ·rintro⟨TT,dd⟩ W ⟨g,r,nb,hd,hT,h2,h4,h7,hXW,hgr,hrr,hnr,hg4,hr4⟩
  obtain rfl:dd = []:=hd;obtain⟨u,rfl⟩:=fr23S TT hT;have e2:u 2 = .pointer (some ⟨w.heap.size,0,none⟩):=Option.some.inj h2;have e4:u 4 = .pointer (some ⟨w.heap.size+1,0,none⟩):=Option.some.inj h4;have e7:u 7 = .pointer (some ⟨g,0,none⟩):=Option.some.inj h7;rw[e2,e4,e7];clear e2 e4 e7 h2 h4 h7 hT;have XwW:Ext w W:=((zu HX0).trans (zu HX4)).trans hXW;have hs4:w.heap.size≤w4.heap.size:=((zu HX0).trans (zu HX4)).size
  have HRun:Hd (Calls Tryz.prog 18 #[.pointer (some ⟨g,0,none⟩),.int .i64 (main:Int)] W fun en w'=>SvF5 w4.heap.size W w'∧∃ ea ec a cap,en = .returned (trV ea s1.ev.length ec (.int .i64 q.k) (.int .i64 q.n) (.complex .f64 q.re q.im) (.string q.s) (.slice a q.l.length cap) er)∧EvAt w' ea s1.ev):=Calls.mono (run_m (h:=⟨w4.heap.size,W.heap.size,g,r,pa,fns.length,pc,⟨nb,0,none⟩⟩) fns main K f s1 e q v hf lc hps hlc hlb (min fuel 100000) ⟨none,0,none,0,none,0⟩ rfl (RepP.to (fun b hb=>⟨Nat.lt_of_lt_of_le hb hs4,XwW.block b hb⟩) (zu HP)) (PtV.ini hnr) hB hN (SB.ini hgr hrr hg4 hr4) (zu HG) (zu HE1) (zu HE2)) (by
   rintro en w' ⟨h1,ea,ec,a,cap,h2,h3⟩;rw[zu HER] at h2;exact⟨h1,ea,ec,a,cap,h2,h3⟩)
  have d1:=hXW.cell c1;have HXW:=zh hXW;have HXw:=zh XwW;clear hgr hrr hnr hXW XwW a0 a1 a2 c0 c1 hf hps hlc hB
  go_wp2_with (go_at_call 18;refine Calls.mono (zu HRun) ?_;rintro en w7 ⟨hF7,ea,ec,a,cap,rfl,hV7⟩;have x7:=SvF5.extOf (zu HXW) hF7;have r7:=x7.row (zu HT4);have t0:=zr r7 0 rfl;have t1:=zr r7 1 rfl;have t2:=zr r7 2 rfl;have t3:=zr r7 3 rfl;have t4:=zr r7 4 rfl;have t5:=zr r7 5 rfl;have t6:=zr r7 6 rfl;have tf:=fun i=>rowF r7 i;have HR7:=zh r7;have HV7:=zh hV7;have HX7:=zh (((zu HX0).trans (zu HX4)).trans x7);clear hF7 hV7 x7 r7)
  obtain⟨W9,hW9⟩:∃ W9,W9=(((((((w7.setCell ⟨w.heap.size+1,0,none⟩ (.slice ea s1.ev.length ec)).setCell ⟨w.heap.size+1,1,none⟩ (.int .i64 q.k)).setCell ⟨w.heap.size+1,2,none⟩ (.int .i64 q.n)).setCell ⟨w.heap.size+1,3,none⟩ (.complex .f64 q.re q.im)).setCell ⟨w.heap.size+1,4,none⟩ (.string q.s)).setCell ⟨w.heap.size+1,5,none⟩ (.slice a q.l.length cap)).setCell ⟨w.heap.size+1,6,none⟩ (.int .i64 er)):=⟨_,rfl⟩;rw[← hW9];have b9:W9.heap[w.heap.size+1]? = some (.cells #[.slice ea s1.ev.length ec,(.int .i64 q.k),(.int .i64 q.n),(.complex .f64 q.re q.im),(.string q.s),(.slice a q.l.length cap),.int .i64 er] 36 (0,0)):=by rw[hW9];exact set7_row (zu HR7) _ _ _ _ _ _ _
  have hle:w.heap.size≤w.heap.size+1:=by omega
  have X9:Ext w W9:=by
   rw[hW9];exact(((((((zu HX7).set hle _).set hle _).set hle _).set hle _).set hle _).set hle _).set hle _
  have V9:EvAt W9 ea s1.ev:=by
   refine EvAt.keep (zu HV7) fun b cur hb => ?_;rw[hW9];refine set7_off (fun e9 => ?_) _ _ _ _ _ _ _;subst e9;rw[zu HR7] at hb;injection hb with hb;injection hb with _ hb _;exact absurd hb (by decide)
  have u0:W9.cell? ⟨w.heap.size+1,0,none⟩=some (.slice ea s1.ev.length ec):=zr b9 0 rfl;have u1:W9.cell? ⟨w.heap.size+1,1,none⟩=some ((.int .i64 q.k)):=zr b9 1 rfl;have u2:W9.cell? ⟨w.heap.size+1,2,none⟩=some ((.int .i64 q.n)):=zr b9 2 rfl;have u3:W9.cell? ⟨w.heap.size+1,3,none⟩=some ((.complex .f64 q.re q.im)):=zr b9 3 rfl;have u4:W9.cell? ⟨w.heap.size+1,4,none⟩=some ((.string q.s)):=zr b9 4 rfl;have u5:W9.cell? ⟨w.heap.size+1,5,none⟩=some ((.slice a q.l.length cap)):=zr b9 5 rfl;have u6:W9.cell? ⟨w.heap.size+1,6,none⟩=some (.int .i64 er):=zr b9 6 rfl;clear hW9 t0 t1 t2 t3 t4 t5 t6 tf
  exact bodyPost_ret (v:=.tuple #[trV ea s1.ev.length ec ((.int .i64 q.k)) ((.int .i64 q.n)) ((.complex .f64 q.re q.im)) ((.string q.s)) ((.slice a q.l.length cap)) er,.int .i64 0]) (by simp[results,Tryz.results9,go_sem,u0,u1,u2,u3,u4,u5,u6]) rfl ⟨X9,ea,ec,a,cap,rfl,V9⟩
end V
end Go.Proofs.YtdnclahaejlehaaGreat
