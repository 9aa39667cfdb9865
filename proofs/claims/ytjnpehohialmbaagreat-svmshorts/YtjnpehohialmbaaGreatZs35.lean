/- Whether a function's registers are few enough,as the document says. -/
import Derived.Test.YtjnpehohialmbaaGreatZs34
set_option linter.unusedSimpArgs false
set_option linter.unusedVariables false
set_option maxRecDepth 10000
set_option maxHeartbeats 2000000
namespace Go.Proofs.YtjnpehohialmbaaGreat
open Go.RowKit
namespace V
structure HdOk (f:KF):Prop where
 lf:∀ c ∈ f.cs,∃ v,c=rcP v
 ps:kPl f.ps 9=true
 lc:f.ps≤f.lc
 lm:f.lc≤64
 c0:0 < f.code.length
 c1:f.code.length≤1000
theorem rvirt_ok (fns:List KF) (z:Nat) (f:KF) (pa:Option Addr) (pc:Nat) (m:Int) (K:Nat) (hs:List Int) (w:World) (hp:RepP w (In w) pa fns) (h0:fns.length≤1000000) (h1:KfB fns) (hK:K≤1000000) (hz:fns[z]? = some f) (hf:HdOk f) (hlen:hs.length=f.code.length) (hq:kHgt fns (z:Int) K=some (hs,0)) :
  Calls Tryz.prog 19 #[kpV pa fns.length pc m,.int .i64 (z:Int)] w fun e' w'=>(∃ v,e' = .returned (.tuple #[.int .i64 v,.int .i64 0]))∧Ext w w':=by
 have hzl:z < fns.length:=(List.getElem?_eq_some_iff.1 hz).1;have HH:=zh (fun (W:World) (x:Ext w W)=>rheights_in fns z f pa pc m K (hs,0) W (hp.ext x) h0 h1 hf.lf hK hz hf.ps hf.lc hf.lm hf.c0 hf.c1 (show (0:Int)≠14 by decide) hq);obtain⟨b,o,ca,cc,ka,kc,rfl,hb,c0,c1,c2,c3,c4,hrl,hrc⟩:=hp.at hz;have hfb:=h1 f (List.mem_of_getElem? hz);have hbd:=zh hfb.2.2;have HRc:=zh hrc;have HPo:=zh (fun (i:KI) (W:World)=>rpops_any i W);have HPu:=zh (fun (i:KI) (W:World)=>rpushes_any i W);have hl0:0≤f.lc:=by
  have:=of_decide_eq_true hf.ps;have:=hf.lc;omega
 have hl1:=hf.lm;have hcl:=hf.c1;have C0:=zh c0;have C1:=zh c1;have C2:=zh c2;have C3:=zh c3;have C4:=zh c4;clear hp h1 hf hz hq hfb c0 c1 c2 c3 c4 hrl hrc hb;obtain⟨FN,FP,FL,FC,FK⟩:=f;simp only at *;generalize hCS:FC.length=CS at *;generalize hKS:FK.length=n at *;generalize fns.length=N at *
 go_enter Tryz.func19,Tryz.ntmps19
 go_wp2_with (go_at_call 47;refine Calls.mono (zu HH _ (Ext.alloc _ _)) ?_;rintro e1 w1 ⟨ha,hc,rfl,hr,hb,hx⟩;have X1:=zh ((Ext.alloc _ _).trans hx);have p0:=hx.box 0 rfl;have p1:=hx.box 1 rfl;have q0:=(zu X1).cell (zu C0);have q1:=(zu X1).cell (zu C1);have q2:=(zu X1).cell (zu C2);have q3:=(zu X1).cell (zu C3);have q4:=(zu X1).cell (zu C4);have HR:=zh (hr.to (F':=In w1) (fun k hk=>⟨hk.2,rfl⟩));have HB:=zh hb;clear hr hb hx)
 obtain⟨Wf,hWf⟩:∃ Wf,Wf=w1.alloc (.cells #[.string FN,.int .i64 FP,.int .i64 FL,.slice ca CS cc,.slice ka n kc] 82):=⟨_,rfl⟩;rw[← hWf];have xf:Ext w1 Wf:=by rw[hWf];exact Ext.alloc _ _
 have rf:Wf.heap[w1.heap.size]? = some (.cells #[.string FN,.int .i64 FP,.int .i64 FL,.slice ca CS cc,.slice ka n kc] 82 (0,0)):=by rw[hWf];exact Go.heap_alloc_new w1 _
 have RF:=zh rf;have XF:=zh xf;have XW:=zh ((zu X1).trans xf);have HR2:=zh ((zu HR).ext xf);have HLn:=zh hlen;have HKn:=zh hKS;clear hWf xf rf p0 p1 q0 q1 q2 q3 q4 HR hlen hKS
 go_loopw [9,10] (fun t9 t10 wr => ∃ (k:Nat) (top:Int),t10 = .int .i64 k∧t9 = .int .i64 top∧k≤n∧0≤top∧top≤65∧Hd (Ext Wf wr)) (fun _ t _=>n - (intOf t).toNat)
 case atStart=>exact⟨0,0,rfl,rfl,by omega,by omega,by omega,Ext.refl _⟩
 case round =>
  obtain⟨k,top,rfl,rfl,hk,ht0,ht1,hX⟩:=hrel;have hlen:=zu HLn;have hKS:=zu HKn;by_cases hlt:k < n
  ·have hlt2:(k:Int) < (n:Int):=by omega
   obtain⟨x,hx⟩:∃ x,hs[k]? = some x:=⟨_,List.getElem?_eq_getElem (by omega)⟩;have hxb:=zu HB x (List.mem_of_getElem? hx);obtain⟨I,hI⟩:∃ I,FK[k]? = some I:=⟨_,List.getElem?_eq_getElem (by omega)⟩;have hib:=zu hbd I (List.mem_of_getElem? hI);have hP0:=kPops_ge I;have hP1:=kPops_le I hib.2.1 hib.2.2.2;have hU:=kPush_ge I;obtain⟨hbk,rfl,cx⟩:∃ hbk,ha=some ⟨hbk,0,none⟩∧wr.cell? ⟨hbk,k,none⟩=some (.int .i64 x):=by
    rcases (zu HR2).ext (zu hX) with h9 | ⟨b9,h8,_,h7⟩
    ·rw[h9] at hx;simp at hx
    ·exact⟨b9,h8,h7 k x hx⟩
   obtain⟨b2,o2,rfl,_,i0,i1,i2⟩:=((zu HRc).ext ((zu XW).trans (zu hX))).at hI;by_cases hx0:0≤x
   ·have hne:Nonempty (RGw wr):=⟨⟨wr,Ext.refl _⟩⟩
    have yx:∀ y:RGw wr,y.w.cell? ⟨hbk,k,none⟩=some (.int .i64 x):=fun y=>y.h.cell cx;have y4:∀ y:RGw wr,y.w.cell? ⟨w1.heap.size,4,none⟩=some (.slice (some ⟨b2,o2,none⟩) n kc):=fun y=>y.h.cell (k_rowC (Ext.rowV (zu hX) (zu RF)) 4 rfl);have j0:∀ y:RGw wr,y.w.cell? ⟨b2,o2+k * 3,none⟩=some (.int .i64 I.op):=fun y=>y.h.cell i0;have j1:∀ y:RGw wr,y.w.cell? ⟨b2,o2+k * 3+1,none⟩=some (.int .i64 I.a):=fun y=>y.h.cell i1;have j2:∀ y:RGw wr,y.w.cell? ⟨b2,o2+k * 3+2,none⟩=some (.int .i64 I.b):=fun y=>y.h.cell i2;have HP:=zh (fun (W:World)=>zu HPo I W);have HU:=zh (fun (W:World)=>zu HPu I W);obtain⟨op,A,B⟩:=I;simp only at j0 j1 j2;generalize kPops ⟨op,A,B⟩=P at *;generalize kPush ⟨op,A,B⟩=U at *;clear i0 i1 i2 hI hx hib
    go_wp2_with fail
    refine wp_region_rx (W:=wr) (by kernel_rfl) (by kernel_rfl) (Ext.refl _) ?_
    repeat (go_big_quiet_step (first
     | (go_at_call 48;exact Calls.rx_of _ _ (zu HP _))
     | (go_at_call 49;exact Calls.rx_of _ _ (zu HU _))))
    refine wpQuiet_nil ?_;rintro w4 ⟨⟨_,hx4⟩,rfl⟩;have X4:=zh ((zu hX).trans hx4);clear hx4 hlen hKS
    go_wp2_with fail
    go_roundw
    case rel=>exact⟨k+1,_,by go_num,rfl,by omega,by omega,by omega,X4⟩
    case measure=>simp[intOf];omega
   ·clear i0 i1 i2 hI hx hib hlen hKS hP0 hP1 hU
    go_wp2_with fail
    go_roundw
    case rel=>exact⟨k+1,top,by go_num,rfl,by omega,by omega,by omega,hX⟩
    case measure=>simp[intOf];omega
  ·have hkf:¬ (k:Int) < (n:Int):=by omega
   have f2:wr.cell? ⟨w1.heap.size,2,none⟩=some (.int .i64 FL):=k_rowC (Ext.rowV (zu hX) (zu RF)) 2 rfl;have h200:¬ 200 < FL+top:=by omega
   clear hlt hk
   go_wp2_with fail
   exact bodyPost_ret (v:=.tuple #[.int .i64 (FL+top),.int .i64 0]) (by simp[results,Tryz.results19]) rfl ⟨⟨FL+top,rfl⟩,(zu XW).trans (zu hX)⟩
end V
end Go.Proofs.YtjnpehohialmbaaGreat
