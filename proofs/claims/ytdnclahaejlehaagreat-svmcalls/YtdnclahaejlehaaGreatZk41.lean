/- The machine with a stack: instructions. · The machine with a stack: instructions. · The machine with a stack: instructions. · The machine with a stack: what a step does,in plain words. · The machine with a stack: a run. -/
import Derived.Test.YtdnclahaejlehaaGreatZk38
import Derived.Test.YtdnclahaejlehaaGreatZk39
import Derived.Test.YtdnclahaejlehaaGreatZk40
import Derived.Test.YtdnclahaejlehaaGreatZk4
import Derived.StillTailTactics
set_option linter.unusedSimpArgs false
set_option linter.unusedVariables false
set_option maxRecDepth 10000
set_option maxHeartbeats 1000000
namespace Go.Proofs.YtdnclahaejlehaaGreat
open Go.RowKit
namespace V
variable {w w' w2:World} {h:SHd} {cs:List (Nat × Nat × Nat)} {ads:List Addr} {fu:Int} {ne:Nat} {evs:List Value} {d:SAd}
theorem st_call (fns:List KF) (f:KF) {bs:List (Nat × Nat × Nat)} {fn pc base:Nat} (a b:Int) (hf:fns[fn]? = some f) (hi:f.code[pc]? = some ⟨9,a,b⟩) (hfl:h.fl=fns.length) (hp:RepP w (fun b=>b < h.L) h.fa fns) (x:SB h w (bs++[(fn,pc,base)]) ads fu ne evs d) (hbs:bs.length≤1000000) (hpc:pc≤1000000) (k:Nat) (hka:a=(k:Int)) (kf:KF) (hkf:fns[k]? = some kf) (h1:ads.length≤1000000) (hkb:k≤1000000) (p m j:Nat) (hps:kf.ps=(p:Int)) (hlc:kf.lc=(p:Int)+(m:Int)) (hpb:p≤1000) (hm:m≤1000) (hj:ads.length=j+p) (hbs2:bs.length≤999990):Calls Tryz.prog 29 #[.pointer (some ⟨h.g,0,none⟩)] w fun e w'=>e = .returned (.int .i64 0)∧(∃ ca cc va vc,SB h w' (bs++[(fn,pc+1,base)]++[(k,0,j)]) (ads++List.replicate m h.na) fu ne evs { d with ca:=ca,cc:=cc,va:=va,vc:=vc })∧SvF5 h.L w w':=by
 obtain⟨c0,c1,c2,c3,c4,zf⟩:=x.cells;obtain⟨fb,fo,fca,fcc,fka,fkc,e1,hfb,k0,k1,k2,k3,k4,hcs,hcd⟩:=hp.at hf;obtain⟨ib,io,e3,hib,i0,i1,i2⟩:=hcd.at hi;subst e3;obtain⟨cb,e2,hcc,hcB,hcf,hcell⟩:=x.cb (by simp);obtain⟨j0,j1,j2⟩:=hcell bs.length (fn,pc,base) (by simp);simp only[List.length_append,List.length_cons,List.length_nil] at c1 hcc j0 j1 j2;rw[e2] at c1;rw[e1,hfl] at c0;have hfn:(fn:Int) < (fns.length:Int):=by have:=(List.getElem?_eq_some_iff.1 hf).1;omega
 have hpc2:(pc:Int) < (f.code.length:Int):=by have:=(List.getElem?_eq_some_iff.1 hi).1;omega
 have hwb:IntKind.i64.wrap (bs.length:Int)=(bs.length:Int):=by rw[IntKind.wrap_i64];omega
 have hbl:(bs.length:Int) < (bs.length:Int)+1:=by omega
 have hL:=x.ltL;have hg:=x.lt;have hcbw:=(x.oc.lt cb (by rw[e2];rfl)).2;have HX:=zh x;have HCS:=zh hcs;have gw:∀ {a:Addr} {u:Value},w.cell? a=some u→∀ v:RGw w,v.w.cell? a=some u:=fun h v=>v.h.cell h;have v0:=gw c0;have v1:=gw c1;have vj0:=gw j0;have hne:Nonempty (RGw w):=⟨⟨w,Ext.refl _⟩⟩;subst hka;have HRp:=zh hp;clear x hp hf hi hcd hcell
 go_enter Tryz.func29,Tryz.ntmps29
 go_wp2_with fail
 refine wp_region_rx (W:=w) (by kernel_rfl) (by kernel_rfl) (Ext.refl _) ?_
 repeat (go_big_quiet_step (fail))
 refine wpQuiet_nil ?_;rintro w1 ⟨⟨_,hx1⟩,rfl⟩;have X1:=zh hx1;clear hx1
 go_wp2_with fail
 refine wp_region_rx (W:=w) (by kernel_rfl) (by kernel_rfl) (zu X1) ?_
 repeat (go_big_quiet_step (fail))
 refine wpQuiet_nil ?_;rintro w2 ⟨⟨_,hx2⟩,rfl⟩;have X2:=zh hx2;clear hx2;have l0:=(zu X2).cell k4;have l1:=(zu X2).cell j1;have l2:=(zu X2).cell i0;have l3:=(zu X2).cell i1;have l4:=(zu X2).cell i2;have hs2:=(zu X2).size;have m0:=fun ob=>(Ext.alloc w2 ob).cell l0;have m1:=fun ob=>(Ext.alloc w2 ob).cell l1;have m2:=fun ob=>(Ext.alloc w2 ob).cell l2;have m3:=fun ob=>(Ext.alloc w2 ob).cell l3;have m4:=fun ob=>(Ext.alloc w2 ob).cell l4
 go_wp2_with fail
 refine wp_oneS ?_;apply Exists.intro;apply Exists.intro;apply And.intro
 ·go_region_law (first | fail)
  all_goals exact nrm_outW ⟨rfl,rfl⟩
 obtain⟨W2,hW2⟩:∃ W2,W2=(w2.alloc (Obj.cells #[.int .i64 9,.int .i64 (k:Int),.int .i64 b] 132)).drew:=⟨_,rfl⟩;have Y2:Ext w W2:=by rw[hW2];exact(zu X2).trans (Ext.drew (Ext.alloc _ _))
 have s2:W2.heap.size=w2.heap.size+1:=by rw[hW2];simp
 have r2:W2.heap[w2.heap.size]? = some (.cells #[.int .i64 9,.int .i64 (k:Int),.int .i64 b] 132 (0,0)):=by rw[hW2];exact Go.heap_alloc_new w2 _
 rw[← hW2];have x3:=((zu HX).ext Y2).setAt e2 (pc+1);have epc:((pc+1:Nat):Int)=(pc:Int)+1:=by omega
 rw[epc] at x3;have p1:=Y2.cell j1;have pf:W2.frozen? ⟨cb,bs.length * 3+1,none⟩=false:=((((zu HX).ext Y2).cb (by simp)).elim (fun c hc=>by
  have e:=hc.1;rw[e2] at e;injection e with e;injection e with e;subst e;exact hc.2.2.2.1 _))
 obtain⟨W3,hW3⟩:∃ W3,W3=W2.setCell ⟨cb,bs.length * 3+1,none⟩ (.int .i64 ((pc:Int)+1)):=⟨_,rfl⟩;rw[← hW3] at x3;have hcb2:w2.heap.size≠cb:=by omega
 have r3:W3.heap[w2.heap.size]? = some (.cells #[.int .i64 9,.int .i64 (k:Int),.int .i64 b] 132 (0,0)):=by rw[hW3,Below.heap_setCell _ _ _ _ hcb2];exact r2
 have t0:W3.cell? ⟨w2.heap.size,0,none⟩=some (.int .i64 9):=zr r3 0 rfl;have t1:W3.cell? ⟨w2.heap.size,1,none⟩=some (.int .i64 (k:Int)):=zr r3 1 rfl;have t2:W3.cell? ⟨w2.heap.size,2,none⟩=some (.int .i64 b):=zr r3 2 rfl;have q0:W2.cell? ⟨w2.heap.size,0,none⟩=some (.int .i64 9):=zr r2 0 rfl;have F3:SvF5 h.L w W3:=(SvF5.of hL Y2).trans x3.2;have X3:=zh x3.1;have HF3:=zh F3;have HR3:=zh r3;have HW3:=zh hW3;have q1:W2.cell? ⟨w2.heap.size,1,none⟩=some (.int .i64 (k:Int)):=zr r2 1 rfl;have q2:W2.cell? ⟨w2.heap.size,2,none⟩=some (.int .i64 b):=zr r2 2 rfl;obtain⟨g0,g1,g2,g3,g4,gf⟩:=x3.1.cells;simp only[List.length_append,List.length_cons,List.length_nil] at g1;rw[e1,hfl] at g0;rw[e2] at g1
 have f3:W3.cell? ⟨fb,fo+fn * 5+3,none⟩=some (.slice fca f.cs.length fcc):=by rw[World.cell?_of_block (w:=w) (F3.low fb hfb)];exact k3
 obtain⟨cb',e2',_,_,hcf3,hcell3⟩:=x3.1.cb (by simp);rw[e2] at e2';injection e2' with e2';injection e2' with e2';subst e2';obtain⟨n0,n1,n2⟩:=hcell3 bs.length (fn,pc+1,base) (by simp);simp only at n0 n1 n2;clear hcell3 x3 F3 r2 r3 hW2 hW3 l0 l1 l2 l3 l4 m0 m1 m2 m3 m4 v0 v1 vj0 gw c0 c1 c2 c3 c4 zf;have HOp:=zh (open_v fns k kf hkf hfl (RepP.to (fun b hb=>⟨hb,(zu HF3).low b hb⟩) (zu HRp)) (zu X3) h1 (by simp;omega) hkb p m j hps hlc hpb hm hj);clear hps hlc hj hkf
 go_wp2_with (go_at_call 28;rw[← zu HW3];refine Calls.mono (zu HOp) ?_;rintro e w5 ⟨rfl,⟨ca5,cc5,va5,vc5,hs⟩,hf⟩;have HS5:=zh hs;have HF5:=zh hf;clear hs hf)
 go_ret;exact⟨rfl,⟨_,_,_,_,zu HS5⟩,(zu HF3).trans (zu HF5)⟩
theorem st_ret (fns:List KF) (f:KF) {bs:List (Nat × Nat × Nat)} {fn pc base:Nat} (a b:Int) (hf:fns[fn]? = some f) (hi:f.code[pc]? = some ⟨10,a,b⟩) (hfl:h.fl=fns.length) (hp:RepP w (fun b=>b < h.L) h.fa fns) (x:SB h w (bs++[(fn,pc,base)]) ads fu ne evs d) (hbs:bs.length≤1000000) (hpc:pc≤1000000) (us:List Addr) (ad:Addr) (hads:ads=us++[ad]) (hn:us.length≤1000000) (hb:base≤us.length):Calls Tryz.prog 29 #[.pointer (some ⟨h.g,0,none⟩)] w fun e w'=>e = .returned (.int .i64 0)∧(∃ va vc,SB h w' bs (us.take base++[ad]) fu ne evs { d with va:=va,vc:=vc })∧SvF5 h.L w w':=by
 obtain⟨c0,c1,c2,c3,c4,zf⟩:=x.cells;obtain⟨fb,fo,fca,fcc,fka,fkc,e1,hfb,k0,k1,k2,k3,k4,hcs,hcd⟩:=hp.at hf;obtain⟨ib,io,e3,hib,i0,i1,i2⟩:=hcd.at hi;subst e3;obtain⟨cb,e2,hcc,hcB,hcf,hcell⟩:=x.cb (by simp);obtain⟨j0,j1,j2⟩:=hcell bs.length (fn,pc,base) (by simp);simp only[List.length_append,List.length_cons,List.length_nil] at c1 hcc j0 j1 j2;rw[e2] at c1;rw[e1,hfl] at c0;have hfn:(fn:Int) < (fns.length:Int):=by have:=(List.getElem?_eq_some_iff.1 hf).1;omega
 have hpc2:(pc:Int) < (f.code.length:Int):=by have:=(List.getElem?_eq_some_iff.1 hi).1;omega
 have hwb:IntKind.i64.wrap (bs.length:Int)=(bs.length:Int):=by rw[IntKind.wrap_i64];omega
 have hbl:(bs.length:Int) < (bs.length:Int)+1:=by omega
 have hL:=x.ltL;have hg:=x.lt;have hcbw:=(x.oc.lt cb (by rw[e2];rfl)).2;have HX:=zh x;have HCS:=zh hcs;have gw:∀ {a:Addr} {u:Value},w.cell? a=some u→∀ v:RGw w,v.w.cell? a=some u:=fun h v=>v.h.cell h;have v0:=gw c0;have v1:=gw c1;have vj0:=gw j0;have hne:Nonempty (RGw w):=⟨⟨w,Ext.refl _⟩⟩;subst hads;clear x hp hf hi hcd hcell
 go_enter Tryz.func29,Tryz.ntmps29
 go_wp2_with fail
 refine wp_region_rx (W:=w) (by kernel_rfl) (by kernel_rfl) (Ext.refl _) ?_
 repeat (go_big_quiet_step (fail))
 refine wpQuiet_nil ?_;rintro w1 ⟨⟨_,hx1⟩,rfl⟩;have X1:=zh hx1;clear hx1
 go_wp2_with fail
 refine wp_region_rx (W:=w) (by kernel_rfl) (by kernel_rfl) (zu X1) ?_
 repeat (go_big_quiet_step (fail))
 refine wpQuiet_nil ?_;rintro w2 ⟨⟨_,hx2⟩,rfl⟩;have X2:=zh hx2;clear hx2;have l0:=(zu X2).cell k4;have l1:=(zu X2).cell j1;have l2:=(zu X2).cell i0;have l3:=(zu X2).cell i1;have l4:=(zu X2).cell i2;have hs2:=(zu X2).size;have m0:=fun ob=>(Ext.alloc w2 ob).cell l0;have m1:=fun ob=>(Ext.alloc w2 ob).cell l1;have m2:=fun ob=>(Ext.alloc w2 ob).cell l2;have m3:=fun ob=>(Ext.alloc w2 ob).cell l3;have m4:=fun ob=>(Ext.alloc w2 ob).cell l4
 go_wp2_with fail
 refine wp_oneS ?_;apply Exists.intro;apply Exists.intro;apply And.intro
 ·go_region_law (first | fail)
  all_goals exact nrm_outW ⟨rfl,rfl⟩
 obtain⟨W2,hW2⟩:∃ W2,W2=(w2.alloc (Obj.cells #[.int .i64 10,.int .i64 a,.int .i64 b] 132)).drew:=⟨_,rfl⟩;have Y2:Ext w W2:=by rw[hW2];exact(zu X2).trans (Ext.drew (Ext.alloc _ _))
 have s2:W2.heap.size=w2.heap.size+1:=by rw[hW2];simp
 have r2:W2.heap[w2.heap.size]? = some (.cells #[.int .i64 10,.int .i64 a,.int .i64 b] 132 (0,0)):=by rw[hW2];exact Go.heap_alloc_new w2 _
 rw[← hW2];have x3:=((zu HX).ext Y2).setAt e2 (pc+1);have epc:((pc+1:Nat):Int)=(pc:Int)+1:=by omega
 rw[epc] at x3;have p1:=Y2.cell j1;have pf:W2.frozen? ⟨cb,bs.length * 3+1,none⟩=false:=((((zu HX).ext Y2).cb (by simp)).elim (fun c hc=>by
  have e:=hc.1;rw[e2] at e;injection e with e;injection e with e;subst e;exact hc.2.2.2.1 _))
 obtain⟨W3,hW3⟩:∃ W3,W3=W2.setCell ⟨cb,bs.length * 3+1,none⟩ (.int .i64 ((pc:Int)+1)):=⟨_,rfl⟩;rw[← hW3] at x3;have hcb2:w2.heap.size≠cb:=by omega
 have r3:W3.heap[w2.heap.size]? = some (.cells #[.int .i64 10,.int .i64 a,.int .i64 b] 132 (0,0)):=by rw[hW3,Below.heap_setCell _ _ _ _ hcb2];exact r2
 have t0:W3.cell? ⟨w2.heap.size,0,none⟩=some (.int .i64 10):=zr r3 0 rfl;have t1:W3.cell? ⟨w2.heap.size,1,none⟩=some (.int .i64 a):=zr r3 1 rfl;have t2:W3.cell? ⟨w2.heap.size,2,none⟩=some (.int .i64 b):=zr r3 2 rfl;have q0:W2.cell? ⟨w2.heap.size,0,none⟩=some (.int .i64 10):=zr r2 0 rfl;have F3:SvF5 h.L w W3:=(SvF5.of hL Y2).trans x3.2;have X3:=zh x3.1;have HF3:=zh F3;have HR3:=zh r3;have HW3:=zh hW3;have q1:W2.cell? ⟨w2.heap.size,1,none⟩=some (.int .i64 a):=zr r2 1 rfl;have q2:W2.cell? ⟨w2.heap.size,2,none⟩=some (.int .i64 b):=zr r2 2 rfl;obtain⟨g0,g1,g2,g3,g4,gf⟩:=x3.1.cells;simp only[List.length_append,List.length_cons,List.length_nil] at g1;rw[e1,hfl] at g0;rw[e2] at g1
 have f3:W3.cell? ⟨fb,fo+fn * 5+3,none⟩=some (.slice fca f.cs.length fcc):=by rw[World.cell?_of_block (w:=w) (F3.low fb hfb)];exact k3
 obtain⟨cb',e2',_,_,hcf3,hcell3⟩:=x3.1.cb (by simp);rw[e2] at e2';injection e2' with e2';injection e2' with e2';subst e2';obtain⟨n0,n1,n2⟩:=hcell3 bs.length (fn,pc+1,base) (by simp);simp only at n0 n1 n2;clear hcell3 x3 F3 r2 r3 hW2 hW3 l0 l1 l2 l3 l4 m0 m1 m2 m3 m4 v0 v1 vj0 gw c0 c1 c2 c3 c4 zf;have HPo:=zh (shut_v (zu X3) hn hbs hb)
 go_wp2_with (go_at_call 60;rw[← zu HW3];refine Calls.mono (zu HPo) ?_;rintro e w5 ⟨rfl,⟨va,vc,hs⟩,hf⟩;have HS5:=zh hs;have HF5:=zh hf;clear hs hf)
 go_ret;exact⟨rfl,⟨_,_,zu HS5⟩,(zu HF3).trans (zu HF5)⟩
end V
namespace V
variable {w w' w2:World} {h:SHd} {cs:List (Nat × Nat × Nat)} {ads:List Addr} {fu:Int} {ne:Nat} {evs:List Value} {d:SAd}
theorem st_bin (fns:List KF) (f:KF) {bs:List (Nat × Nat × Nat)} {fn pc base:Nat} (a b:Int) (hf:fns[fn]? = some f) (hi:f.code[pc]? = some ⟨5,a,b⟩) (hfl:h.fl=fns.length) (hp:RepP w (fun b=>b < h.L) h.fa fns) (x:SB h w (bs++[(fn,pc,base)]) ads fu ne evs d) (hbs:bs.length≤1000000) (hpc:pc≤1000000) (us:List Addr) (a1 a2:Addr) (hads:ads=us++[a1]++[a2]) (hn:us.length≤999990) (p q v:PV) (hbn:sBin a p q=some v) (hP:PtV h.L w a1 p) (hQ:PtV h.L w a2 q):Calls Tryz.prog 29 #[.pointer (some ⟨h.g,0,none⟩)] w fun e w'=>e = .returned (.int .i64 0)∧(∃ ad va vc,SB h w' (bs++[(fn,pc+1,base)]) (us++[ad]) fu ne evs { d with va:=va,vc:=vc }∧PtV h.L w' ad v)∧SvF5 h.L w w':=by
 obtain⟨c0,c1,c2,c3,c4,zf⟩:=x.cells;obtain⟨fb,fo,fca,fcc,fka,fkc,e1,hfb,k0,k1,k2,k3,k4,hcs,hcd⟩:=hp.at hf;obtain⟨ib,io,e3,hib,i0,i1,i2⟩:=hcd.at hi;subst e3;obtain⟨cb,e2,hcc,hcB,hcf,hcell⟩:=x.cb (by simp);obtain⟨j0,j1,j2⟩:=hcell bs.length (fn,pc,base) (by simp);simp only[List.length_append,List.length_cons,List.length_nil] at c1 hcc j0 j1 j2;rw[e2] at c1;rw[e1,hfl] at c0;have hfn:(fn:Int) < (fns.length:Int):=by have:=(List.getElem?_eq_some_iff.1 hf).1;omega
 have hpc2:(pc:Int) < (f.code.length:Int):=by have:=(List.getElem?_eq_some_iff.1 hi).1;omega
 have hwb:IntKind.i64.wrap (bs.length:Int)=(bs.length:Int):=by rw[IntKind.wrap_i64];omega
 have hbl:(bs.length:Int) < (bs.length:Int)+1:=by omega
 have hL:=x.ltL;have hg:=x.lt;have hcbw:=(x.oc.lt cb (by rw[e2];rfl)).2;have HX:=zh x;have HCS:=zh hcs;have gw:∀ {a:Addr} {u:Value},w.cell? a=some u→∀ v:RGw w,v.w.cell? a=some u:=fun h v=>v.h.cell h;have v0:=gw c0;have v1:=gw c1;have vj0:=gw j0;have hne:Nonempty (RGw w):=⟨⟨w,Ext.refl _⟩⟩;subst hads;clear x hp hf hi hcd hcell
 go_enter Tryz.func29,Tryz.ntmps29
 go_wp2_with fail
 refine wp_region_rx (W:=w) (by kernel_rfl) (by kernel_rfl) (Ext.refl _) ?_
 repeat (go_big_quiet_step (fail))
 refine wpQuiet_nil ?_;rintro w1 ⟨⟨_,hx1⟩,rfl⟩;have X1:=zh hx1;clear hx1
 go_wp2_with fail
 refine wp_region_rx (W:=w) (by kernel_rfl) (by kernel_rfl) (zu X1) ?_
 repeat (go_big_quiet_step (fail))
 refine wpQuiet_nil ?_;rintro w2 ⟨⟨_,hx2⟩,rfl⟩;have X2:=zh hx2;clear hx2;have l0:=(zu X2).cell k4;have l1:=(zu X2).cell j1;have l2:=(zu X2).cell i0;have l3:=(zu X2).cell i1;have l4:=(zu X2).cell i2;have hs2:=(zu X2).size;have m0:=fun ob=>(Ext.alloc w2 ob).cell l0;have m1:=fun ob=>(Ext.alloc w2 ob).cell l1;have m2:=fun ob=>(Ext.alloc w2 ob).cell l2;have m3:=fun ob=>(Ext.alloc w2 ob).cell l3;have m4:=fun ob=>(Ext.alloc w2 ob).cell l4
 go_wp2_with fail
 refine wp_oneS ?_;apply Exists.intro;apply Exists.intro;apply And.intro
 ·go_region_law (first | fail)
  all_goals exact nrm_outW ⟨rfl,rfl⟩
 obtain⟨W2,hW2⟩:∃ W2,W2=(w2.alloc (Obj.cells #[.int .i64 5,.int .i64 a,.int .i64 b] 132)).drew:=⟨_,rfl⟩;have Y2:Ext w W2:=by rw[hW2];exact(zu X2).trans (Ext.drew (Ext.alloc _ _))
 have s2:W2.heap.size=w2.heap.size+1:=by rw[hW2];simp
 have r2:W2.heap[w2.heap.size]? = some (.cells #[.int .i64 5,.int .i64 a,.int .i64 b] 132 (0,0)):=by rw[hW2];exact Go.heap_alloc_new w2 _
 rw[← hW2];have x3:=((zu HX).ext Y2).setAt e2 (pc+1);have epc:((pc+1:Nat):Int)=(pc:Int)+1:=by omega
 rw[epc] at x3;have p1:=Y2.cell j1;have pf:W2.frozen? ⟨cb,bs.length * 3+1,none⟩=false:=((((zu HX).ext Y2).cb (by simp)).elim (fun c hc=>by
  have e:=hc.1;rw[e2] at e;injection e with e;injection e with e;subst e;exact hc.2.2.2.1 _))
 obtain⟨W3,hW3⟩:∃ W3,W3=W2.setCell ⟨cb,bs.length * 3+1,none⟩ (.int .i64 ((pc:Int)+1)):=⟨_,rfl⟩;rw[← hW3] at x3;have hcb2:w2.heap.size≠cb:=by omega
 have r3:W3.heap[w2.heap.size]? = some (.cells #[.int .i64 5,.int .i64 a,.int .i64 b] 132 (0,0)):=by rw[hW3,Below.heap_setCell _ _ _ _ hcb2];exact r2
 have t0:W3.cell? ⟨w2.heap.size,0,none⟩=some (.int .i64 5):=zr r3 0 rfl;have t1:W3.cell? ⟨w2.heap.size,1,none⟩=some (.int .i64 a):=zr r3 1 rfl;have t2:W3.cell? ⟨w2.heap.size,2,none⟩=some (.int .i64 b):=zr r3 2 rfl;have q0:W2.cell? ⟨w2.heap.size,0,none⟩=some (.int .i64 5):=zr r2 0 rfl;have F3:SvF5 h.L w W3:=(SvF5.of hL Y2).trans x3.2;have X3:=zh x3.1;have HF3:=zh F3;have HR3:=zh r3;have HW3:=zh hW3;have q1:W2.cell? ⟨w2.heap.size,1,none⟩=some (.int .i64 a):=zr r2 1 rfl;have q2:W2.cell? ⟨w2.heap.size,2,none⟩=some (.int .i64 b):=zr r2 2 rfl;obtain⟨g0,g1,g2,g3,g4,gf⟩:=x3.1.cells;simp only[List.length_append,List.length_cons,List.length_nil] at g1;rw[e1,hfl] at g0;rw[e2] at g1
 have f3:W3.cell? ⟨fb,fo+fn * 5+3,none⟩=some (.slice fca f.cs.length fcc):=by rw[World.cell?_of_block (w:=w) (F3.low fb hfb)];exact k3
 obtain⟨cb',e2',_,_,hcf3,hcell3⟩:=x3.1.cb (by simp);rw[e2] at e2';injection e2' with e2';injection e2' with e2';subst e2';obtain⟨n0,n1,n2⟩:=hcell3 bs.length (fn,pc+1,base) (by simp);simp only at n0 n1 n2;clear hcell3 x3 F3 r2 r3 hW2 hW3 l0 l1 l2 l3 l4 m0 m1 m2 m3 m4 v0 v1 vj0 gw c0 c1 c2 c3 c4 zf;have HWk:=zh (work_v (zu X3) hn a b p q v hbn (hP.on (zu HF3)) (hQ.on (zu HF3)));clear hP hQ hbn
 go_wp2_with (go_at_call 63;rw[← zu HW3];refine Calls.mono (zu HWk) ?_;rintro e w5 ⟨rfl,⟨ad,va,vc,hs,hp5⟩,hf⟩;have HS5:=zh hs;have HP5:=zh hp5;have HF5:=zh hf;clear hs hf hp5)
 go_ret;exact⟨rfl,⟨_,_,_,zu HS5,zu HP5⟩,(zu HF3).trans (zu HF5)⟩
theorem st_brz1 (fns:List KF) (f:KF) {bs:List (Nat × Nat × Nat)} {fn pc base:Nat} (a b:Int) (hf:fns[fn]? = some f) (hi:f.code[pc]? = some ⟨8,a,b⟩) (hfl:h.fl=fns.length) (hp:RepP w (fun b=>b < h.L) h.fa fns) (x:SB h w (bs++[(fn,pc,base)]) ads fu ne evs d) (hbs:bs.length≤1000000) (hpc:pc≤1000000) (q:Nat) (hq:a=(q:Int)) (us:List Addr) (ad:Addr) (hads:ads=us++[ad]) (hn:us.length≤1000000) (v:PV) (hP:PtV h.L w ad v) (htv:truev (tk v)=true):Calls Tryz.prog 29 #[.pointer (some ⟨h.g,0,none⟩)] w fun e w'=>e = .returned (.int .i64 0)∧SB h w' (bs++[(fn,pc+1,base)]) us fu ne evs d∧SvF5 h.L w w':=by
 obtain⟨c0,c1,c2,c3,c4,zf⟩:=x.cells;obtain⟨fb,fo,fca,fcc,fka,fkc,e1,hfb,k0,k1,k2,k3,k4,hcs,hcd⟩:=hp.at hf;obtain⟨ib,io,e3,hib,i0,i1,i2⟩:=hcd.at hi;subst e3;obtain⟨cb,e2,hcc,hcB,hcf,hcell⟩:=x.cb (by simp);obtain⟨j0,j1,j2⟩:=hcell bs.length (fn,pc,base) (by simp);simp only[List.length_append,List.length_cons,List.length_nil] at c1 hcc j0 j1 j2;rw[e2] at c1;rw[e1,hfl] at c0;have hfn:(fn:Int) < (fns.length:Int):=by have:=(List.getElem?_eq_some_iff.1 hf).1;omega
 have hpc2:(pc:Int) < (f.code.length:Int):=by have:=(List.getElem?_eq_some_iff.1 hi).1;omega
 have hwb:IntKind.i64.wrap (bs.length:Int)=(bs.length:Int):=by rw[IntKind.wrap_i64];omega
 have hbl:(bs.length:Int) < (bs.length:Int)+1:=by omega
 have hL:=x.ltL;have hg:=x.lt;have hcbw:=(x.oc.lt cb (by rw[e2];rfl)).2;have HX:=zh x;have HCS:=zh hcs;have gw:∀ {a:Addr} {u:Value},w.cell? a=some u→∀ v:RGw w,v.w.cell? a=some u:=fun h v=>v.h.cell h;have v0:=gw c0;have v1:=gw c1;have vj0:=gw j0;have hne:Nonempty (RGw w):=⟨⟨w,Ext.refl _⟩⟩;subst hads hq;obtain⟨vb1,vo1,sa1,sc1,e7,E7⟩:=hP;subst e7;have HE7:=zh E7;clear E7;clear x hp hf hi hcd hcell
 go_enter Tryz.func29,Tryz.ntmps29
 go_wp2_with fail
 refine wp_region_rx (W:=w) (by kernel_rfl) (by kernel_rfl) (Ext.refl _) ?_
 repeat (go_big_quiet_step (fail))
 refine wpQuiet_nil ?_;rintro w1 ⟨⟨_,hx1⟩,rfl⟩;have X1:=zh hx1;clear hx1
 go_wp2_with fail
 refine wp_region_rx (W:=w) (by kernel_rfl) (by kernel_rfl) (zu X1) ?_
 repeat (go_big_quiet_step (fail))
 refine wpQuiet_nil ?_;rintro w2 ⟨⟨_,hx2⟩,rfl⟩;have X2:=zh hx2;clear hx2;have l0:=(zu X2).cell k4;have l1:=(zu X2).cell j1;have l2:=(zu X2).cell i0;have l3:=(zu X2).cell i1;have l4:=(zu X2).cell i2;have hs2:=(zu X2).size;have m0:=fun ob=>(Ext.alloc w2 ob).cell l0;have m1:=fun ob=>(Ext.alloc w2 ob).cell l1;have m2:=fun ob=>(Ext.alloc w2 ob).cell l2;have m3:=fun ob=>(Ext.alloc w2 ob).cell l3;have m4:=fun ob=>(Ext.alloc w2 ob).cell l4
 go_wp2_with fail
 refine wp_oneS ?_;apply Exists.intro;apply Exists.intro;apply And.intro
 ·go_region_law (first | fail)
  all_goals exact nrm_outW ⟨rfl,rfl⟩
 obtain⟨W2,hW2⟩:∃ W2,W2=(w2.alloc (Obj.cells #[.int .i64 8,.int .i64 (q:Int),.int .i64 b] 132)).drew:=⟨_,rfl⟩;have Y2:Ext w W2:=by rw[hW2];exact(zu X2).trans (Ext.drew (Ext.alloc _ _))
 have s2:W2.heap.size=w2.heap.size+1:=by rw[hW2];simp
 have r2:W2.heap[w2.heap.size]? = some (.cells #[.int .i64 8,.int .i64 (q:Int),.int .i64 b] 132 (0,0)):=by rw[hW2];exact Go.heap_alloc_new w2 _
 rw[← hW2];have x3:=((zu HX).ext Y2).setAt e2 (pc+1);have epc:((pc+1:Nat):Int)=(pc:Int)+1:=by omega
 rw[epc] at x3;have p1:=Y2.cell j1;have pf:W2.frozen? ⟨cb,bs.length * 3+1,none⟩=false:=((((zu HX).ext Y2).cb (by simp)).elim (fun c hc=>by
  have e:=hc.1;rw[e2] at e;injection e with e;injection e with e;subst e;exact hc.2.2.2.1 _))
 obtain⟨W3,hW3⟩:∃ W3,W3=W2.setCell ⟨cb,bs.length * 3+1,none⟩ (.int .i64 ((pc:Int)+1)):=⟨_,rfl⟩;rw[← hW3] at x3;have hcb2:w2.heap.size≠cb:=by omega
 have r3:W3.heap[w2.heap.size]? = some (.cells #[.int .i64 8,.int .i64 (q:Int),.int .i64 b] 132 (0,0)):=by rw[hW3,Below.heap_setCell _ _ _ _ hcb2];exact r2
 have t0:W3.cell? ⟨w2.heap.size,0,none⟩=some (.int .i64 8):=zr r3 0 rfl;have t1:W3.cell? ⟨w2.heap.size,1,none⟩=some (.int .i64 (q:Int)):=zr r3 1 rfl;have t2:W3.cell? ⟨w2.heap.size,2,none⟩=some (.int .i64 b):=zr r3 2 rfl;have q0:W2.cell? ⟨w2.heap.size,0,none⟩=some (.int .i64 8):=zr r2 0 rfl;have F3:SvF5 h.L w W3:=(SvF5.of hL Y2).trans x3.2;have X3:=zh x3.1;have HF3:=zh F3;have HR3:=zh r3;have HW3:=zh hW3;have q1:W2.cell? ⟨w2.heap.size,1,none⟩=some (.int .i64 (q:Int)):=zr r2 1 rfl;have q2:W2.cell? ⟨w2.heap.size,2,none⟩=some (.int .i64 b):=zr r2 2 rfl;obtain⟨g0,g1,g2,g3,g4,gf⟩:=x3.1.cells;simp only[List.length_append,List.length_cons,List.length_nil] at g1;rw[e1,hfl] at g0;rw[e2] at g1
 have f3:W3.cell? ⟨fb,fo+fn * 5+3,none⟩=some (.slice fca f.cs.length fcc):=by rw[World.cell?_of_block (w:=w) (F3.low fb hfb)];exact k3
 obtain⟨cb',e2',_,_,hcf3,hcell3⟩:=x3.1.cb (by simp);rw[e2] at e2';injection e2' with e2';injection e2' with e2';subst e2';obtain⟨n0,n1,n2⟩:=hcell3 bs.length (fn,pc+1,base) (by simp);simp only at n0 n1 n2;clear hcell3 x3 F3 r2 r3 hW2 hW3 l0 l1 l2 l3 l4 m0 m1 m2 m3 m4 v0 v1 vj0 gw c0 c1 c2 c3 c4 zf;have HPo:=zh (pop_v (zu X3) hn);have HTv:=zh htv;clear htv
 go_wp2_with (first
  | (go_at_call 32;rw[← zu HW3];refine Calls.mono (zu HPo) ?_;rintro e w5 ⟨rfl,hs,hf⟩;have E5:=(zu HE7).to ((zu HF3).trans hf).nt;have z0:=E5.c0;have z1:=E5.c1;have z2:=E5.c2;have z3:=E5.c3;have z4:=E5.c4;have ht5:=truth_any v _ w5 (Rep.to (w':=w5) (F:=NT h.L w5) (F':=In w5) (fun b hb=>⟨hb.1,rfl⟩) _ _ E5.rep);rw[zu HTv] at ht5;have HT5:=zh ht5;have HS5:=zh hs;have HF5:=zh hf;have y1:w5.cell? ⟨w2.heap.size,1,none⟩=some (.int .i64 (q:Int)):=zr (hf.typ _ _ _ _ (zu HR3) (by unfold T5;decide)) 1 rfl;obtain⟨cb5,e5c,_,_,cf5,hc5⟩:=hs.cb (by simp);rw[e2] at e5c;injection e5c with e5c;injection e5c with e5c;subst e5c;have n15:=(hc5 bs.length (fn,pc+1,base) (by simp)).2.1;clear hs hf ht5 E5 hc5)
  | (go_at_call 59;refine Calls.mono (zu HT5) ?_;rintro e w6 ⟨rfl,hx6⟩;have HS6:=zh ((zu HS5).ext hx6);have HF6:=zh ((zu HF5).trans (SvF5.of (zu HS5).ltL hx6));have y16:=hx6.cell y1;have n16:=hx6.cell n15;have cf6:w6.frozen? ⟨cb,bs.length * 3+1,none⟩=false:=(by have hc:=(zu HS6).cb (by simp);obtain⟨c6,e6,_,_,f6,_⟩:=hc;rw[e2] at e6;injection e6 with e6;injection e6 with e6;subst e6;exact f6 _);clear hx6 HT5))
 go_ret;exact⟨rfl,zu HS6,(zu HF3).trans (zu HF6)⟩
theorem st_brz0 (fns:List KF) (f:KF) {bs:List (Nat × Nat × Nat)} {fn pc base:Nat} (a b:Int) (hf:fns[fn]? = some f) (hi:f.code[pc]? = some ⟨8,a,b⟩) (hfl:h.fl=fns.length) (hp:RepP w (fun b=>b < h.L) h.fa fns) (x:SB h w (bs++[(fn,pc,base)]) ads fu ne evs d) (hbs:bs.length≤1000000) (hpc:pc≤1000000) (q:Nat) (hq:a=(q:Int)) (us:List Addr) (ad:Addr) (hads:ads=us++[ad]) (hn:us.length≤1000000) (v:PV) (hP:PtV h.L w ad v) (htv:truev (tk v)=false):Calls Tryz.prog 29 #[.pointer (some ⟨h.g,0,none⟩)] w fun e w'=>e = .returned (.int .i64 0)∧SB h w' (bs++[(fn,q,base)]) us fu ne evs d∧SvF5 h.L w w':=by
 obtain⟨c0,c1,c2,c3,c4,zf⟩:=x.cells;obtain⟨fb,fo,fca,fcc,fka,fkc,e1,hfb,k0,k1,k2,k3,k4,hcs,hcd⟩:=hp.at hf;obtain⟨ib,io,e3,hib,i0,i1,i2⟩:=hcd.at hi;subst e3;obtain⟨cb,e2,hcc,hcB,hcf,hcell⟩:=x.cb (by simp);obtain⟨j0,j1,j2⟩:=hcell bs.length (fn,pc,base) (by simp);simp only[List.length_append,List.length_cons,List.length_nil] at c1 hcc j0 j1 j2;rw[e2] at c1;rw[e1,hfl] at c0;have hfn:(fn:Int) < (fns.length:Int):=by have:=(List.getElem?_eq_some_iff.1 hf).1;omega
 have hpc2:(pc:Int) < (f.code.length:Int):=by have:=(List.getElem?_eq_some_iff.1 hi).1;omega
 have hwb:IntKind.i64.wrap (bs.length:Int)=(bs.length:Int):=by rw[IntKind.wrap_i64];omega
 have hbl:(bs.length:Int) < (bs.length:Int)+1:=by omega
 have hL:=x.ltL;have hg:=x.lt;have hcbw:=(x.oc.lt cb (by rw[e2];rfl)).2;have HX:=zh x;have HCS:=zh hcs;have gw:∀ {a:Addr} {u:Value},w.cell? a=some u→∀ v:RGw w,v.w.cell? a=some u:=fun h v=>v.h.cell h;have v0:=gw c0;have v1:=gw c1;have vj0:=gw j0;have hne:Nonempty (RGw w):=⟨⟨w,Ext.refl _⟩⟩;subst hads hq;obtain⟨vb1,vo1,sa1,sc1,e7,E7⟩:=hP;subst e7;have HE7:=zh E7;clear E7;clear x hp hf hi hcd hcell
 go_enter Tryz.func29,Tryz.ntmps29
 go_wp2_with fail
 refine wp_region_rx (W:=w) (by kernel_rfl) (by kernel_rfl) (Ext.refl _) ?_
 repeat (go_big_quiet_step (fail))
 refine wpQuiet_nil ?_;rintro w1 ⟨⟨_,hx1⟩,rfl⟩;have X1:=zh hx1;clear hx1
 go_wp2_with fail
 refine wp_region_rx (W:=w) (by kernel_rfl) (by kernel_rfl) (zu X1) ?_
 repeat (go_big_quiet_step (fail))
 refine wpQuiet_nil ?_;rintro w2 ⟨⟨_,hx2⟩,rfl⟩;have X2:=zh hx2;clear hx2;have l0:=(zu X2).cell k4;have l1:=(zu X2).cell j1;have l2:=(zu X2).cell i0;have l3:=(zu X2).cell i1;have l4:=(zu X2).cell i2;have hs2:=(zu X2).size;have m0:=fun ob=>(Ext.alloc w2 ob).cell l0;have m1:=fun ob=>(Ext.alloc w2 ob).cell l1;have m2:=fun ob=>(Ext.alloc w2 ob).cell l2;have m3:=fun ob=>(Ext.alloc w2 ob).cell l3;have m4:=fun ob=>(Ext.alloc w2 ob).cell l4
 go_wp2_with fail
 refine wp_oneS ?_;apply Exists.intro;apply Exists.intro;apply And.intro
 ·go_region_law (first | fail)
  all_goals exact nrm_outW ⟨rfl,rfl⟩
 obtain⟨W2,hW2⟩:∃ W2,W2=(w2.alloc (Obj.cells #[.int .i64 8,.int .i64 (q:Int),.int .i64 b] 132)).drew:=⟨_,rfl⟩;have Y2:Ext w W2:=by rw[hW2];exact(zu X2).trans (Ext.drew (Ext.alloc _ _))
 have s2:W2.heap.size=w2.heap.size+1:=by rw[hW2];simp
 have r2:W2.heap[w2.heap.size]? = some (.cells #[.int .i64 8,.int .i64 (q:Int),.int .i64 b] 132 (0,0)):=by rw[hW2];exact Go.heap_alloc_new w2 _
 rw[← hW2];have x3:=((zu HX).ext Y2).setAt e2 (pc+1);have epc:((pc+1:Nat):Int)=(pc:Int)+1:=by omega
 rw[epc] at x3;have p1:=Y2.cell j1;have pf:W2.frozen? ⟨cb,bs.length * 3+1,none⟩=false:=((((zu HX).ext Y2).cb (by simp)).elim (fun c hc=>by
  have e:=hc.1;rw[e2] at e;injection e with e;injection e with e;subst e;exact hc.2.2.2.1 _))
 obtain⟨W3,hW3⟩:∃ W3,W3=W2.setCell ⟨cb,bs.length * 3+1,none⟩ (.int .i64 ((pc:Int)+1)):=⟨_,rfl⟩;rw[← hW3] at x3;have hcb2:w2.heap.size≠cb:=by omega
 have r3:W3.heap[w2.heap.size]? = some (.cells #[.int .i64 8,.int .i64 (q:Int),.int .i64 b] 132 (0,0)):=by rw[hW3,Below.heap_setCell _ _ _ _ hcb2];exact r2
 have t0:W3.cell? ⟨w2.heap.size,0,none⟩=some (.int .i64 8):=zr r3 0 rfl;have t1:W3.cell? ⟨w2.heap.size,1,none⟩=some (.int .i64 (q:Int)):=zr r3 1 rfl;have t2:W3.cell? ⟨w2.heap.size,2,none⟩=some (.int .i64 b):=zr r3 2 rfl;have q0:W2.cell? ⟨w2.heap.size,0,none⟩=some (.int .i64 8):=zr r2 0 rfl;have F3:SvF5 h.L w W3:=(SvF5.of hL Y2).trans x3.2;have X3:=zh x3.1;have HF3:=zh F3;have HR3:=zh r3;have HW3:=zh hW3;have q1:W2.cell? ⟨w2.heap.size,1,none⟩=some (.int .i64 (q:Int)):=zr r2 1 rfl;have q2:W2.cell? ⟨w2.heap.size,2,none⟩=some (.int .i64 b):=zr r2 2 rfl;obtain⟨g0,g1,g2,g3,g4,gf⟩:=x3.1.cells;simp only[List.length_append,List.length_cons,List.length_nil] at g1;rw[e1,hfl] at g0;rw[e2] at g1
 have f3:W3.cell? ⟨fb,fo+fn * 5+3,none⟩=some (.slice fca f.cs.length fcc):=by rw[World.cell?_of_block (w:=w) (F3.low fb hfb)];exact k3
 obtain⟨cb',e2',_,_,hcf3,hcell3⟩:=x3.1.cb (by simp);rw[e2] at e2';injection e2' with e2';injection e2' with e2';subst e2';obtain⟨n0,n1,n2⟩:=hcell3 bs.length (fn,pc+1,base) (by simp);simp only at n0 n1 n2;clear hcell3 x3 F3 r2 r3 hW2 hW3 l0 l1 l2 l3 l4 m0 m1 m2 m3 m4 v0 v1 vj0 gw c0 c1 c2 c3 c4 zf;have HPo:=zh (pop_v (zu X3) hn);have HTv:=zh htv;clear htv
 go_wp2_with (first
  | (go_at_call 32;rw[← zu HW3];refine Calls.mono (zu HPo) ?_;rintro e w5 ⟨rfl,hs,hf⟩;have E5:=(zu HE7).to ((zu HF3).trans hf).nt;have z0:=E5.c0;have z1:=E5.c1;have z2:=E5.c2;have z3:=E5.c3;have z4:=E5.c4;have ht5:=truth_any v _ w5 (Rep.to (w':=w5) (F:=NT h.L w5) (F':=In w5) (fun b hb=>⟨hb.1,rfl⟩) _ _ E5.rep);rw[zu HTv] at ht5;have HT5:=zh ht5;have HS5:=zh hs;have HF5:=zh hf;have y1:w5.cell? ⟨w2.heap.size,1,none⟩=some (.int .i64 (q:Int)):=zr (hf.typ _ _ _ _ (zu HR3) (by unfold T5;decide)) 1 rfl;obtain⟨cb5,e5c,_,_,cf5,hc5⟩:=hs.cb (by simp);rw[e2] at e5c;injection e5c with e5c;injection e5c with e5c;subst e5c;have n15:=(hc5 bs.length (fn,pc+1,base) (by simp)).2.1;clear hs hf ht5 E5 hc5)
  | (go_at_call 59;refine Calls.mono (zu HT5) ?_;rintro e w6 ⟨rfl,hx6⟩;have HS6:=zh ((zu HS5).ext hx6);have HF6:=zh ((zu HF5).trans (SvF5.of (zu HS5).ltL hx6));have y16:=hx6.cell y1;have n16:=hx6.cell n15;have cf6:w6.frozen? ⟨cb,bs.length * 3+1,none⟩=false:=(by have hc:=(zu HS6).cb (by simp);obtain⟨c6,e6,_,_,f6,_⟩:=hc;rw[e2] at e6;injection e6 with e6;injection e6 with e6;subst e6;exact f6 _);clear hx6 HT5))
 go_ret;have hq6:=(zu HS6).setAt e2 q;exact⟨rfl,hq6.1,((zu HF3).trans (zu HF6)).trans hq6.2⟩
end V
namespace V
variable {w w' w2:World} {h:SHd} {cs:List (Nat × Nat × Nat)} {ads:List Addr} {fu:Int} {ne:Nat} {evs:List Value} {d:SAd}
theorem st_store (fns:List KF) (f:KF) {bs:List (Nat × Nat × Nat)} {fn pc base:Nat} (a b:Int) (hf:fns[fn]? = some f) (hi:f.code[pc]? = some ⟨3,a,b⟩) (hfl:h.fl=fns.length) (hp:RepP w (fun b=>b < h.L) h.fa fns) (x:SB h w (bs++[(fn,pc,base)]) ads fu ne evs d) (hbs:bs.length≤1000000) (hpc:pc≤1000000) (q:Nat) (hq:a=(q:Int)) (us:List Addr) (ad:Addr) (hads:ads=us++[ad]) (hn:us.length≤1000000) (hbq:base+q < us.length):Calls Tryz.prog 29 #[.pointer (some ⟨h.g,0,none⟩)] w fun e w'=>e = .returned (.int .i64 0)∧SB h w' (bs++[(fn,pc+1,base)]) (us.set (base+q) ad) fu ne evs d∧SvF5 h.L w w':=by
 obtain⟨c0,c1,c2,c3,c4,zf⟩:=x.cells;obtain⟨fb,fo,fca,fcc,fka,fkc,e1,hfb,k0,k1,k2,k3,k4,hcs,hcd⟩:=hp.at hf;obtain⟨ib,io,e3,hib,i0,i1,i2⟩:=hcd.at hi;subst e3;obtain⟨cb,e2,hcc,hcB,hcf,hcell⟩:=x.cb (by simp);obtain⟨j0,j1,j2⟩:=hcell bs.length (fn,pc,base) (by simp);simp only[List.length_append,List.length_cons,List.length_nil] at c1 hcc j0 j1 j2;rw[e2] at c1;rw[e1,hfl] at c0;have hfn:(fn:Int) < (fns.length:Int):=by have:=(List.getElem?_eq_some_iff.1 hf).1;omega
 have hpc2:(pc:Int) < (f.code.length:Int):=by have:=(List.getElem?_eq_some_iff.1 hi).1;omega
 have hwb:IntKind.i64.wrap (bs.length:Int)=(bs.length:Int):=by rw[IntKind.wrap_i64];omega
 have hbl:(bs.length:Int) < (bs.length:Int)+1:=by omega
 have hL:=x.ltL;have hg:=x.lt;have hcbw:=(x.oc.lt cb (by rw[e2];rfl)).2;have HX:=zh x;have HCS:=zh hcs;have gw:∀ {a:Addr} {u:Value},w.cell? a=some u→∀ v:RGw w,v.w.cell? a=some u:=fun h v=>v.h.cell h;have v0:=gw c0;have v1:=gw c1;have vj0:=gw j0;have hne:Nonempty (RGw w):=⟨⟨w,Ext.refl _⟩⟩;subst hads hq;clear x hp hf hi hcd hcell
 go_enter Tryz.func29,Tryz.ntmps29
 go_wp2_with fail
 refine wp_region_rx (W:=w) (by kernel_rfl) (by kernel_rfl) (Ext.refl _) ?_
 repeat (go_big_quiet_step (fail))
 refine wpQuiet_nil ?_;rintro w1 ⟨⟨_,hx1⟩,rfl⟩;have X1:=zh hx1;clear hx1
 go_wp2_with fail
 refine wp_region_rx (W:=w) (by kernel_rfl) (by kernel_rfl) (zu X1) ?_
 repeat (go_big_quiet_step (fail))
 refine wpQuiet_nil ?_;rintro w2 ⟨⟨_,hx2⟩,rfl⟩;have X2:=zh hx2;clear hx2;have l0:=(zu X2).cell k4;have l1:=(zu X2).cell j1;have l2:=(zu X2).cell i0;have l3:=(zu X2).cell i1;have l4:=(zu X2).cell i2;have hs2:=(zu X2).size;have m0:=fun ob=>(Ext.alloc w2 ob).cell l0;have m1:=fun ob=>(Ext.alloc w2 ob).cell l1;have m2:=fun ob=>(Ext.alloc w2 ob).cell l2;have m3:=fun ob=>(Ext.alloc w2 ob).cell l3;have m4:=fun ob=>(Ext.alloc w2 ob).cell l4
 go_wp2_with fail
 refine wp_oneS ?_;apply Exists.intro;apply Exists.intro;apply And.intro
 ·go_region_law (first | fail)
  all_goals exact nrm_outW ⟨rfl,rfl⟩
 obtain⟨W2,hW2⟩:∃ W2,W2=(w2.alloc (Obj.cells #[.int .i64 3,.int .i64 (q:Int),.int .i64 b] 132)).drew:=⟨_,rfl⟩;have Y2:Ext w W2:=by rw[hW2];exact(zu X2).trans (Ext.drew (Ext.alloc _ _))
 have s2:W2.heap.size=w2.heap.size+1:=by rw[hW2];simp
 have r2:W2.heap[w2.heap.size]? = some (.cells #[.int .i64 3,.int .i64 (q:Int),.int .i64 b] 132 (0,0)):=by rw[hW2];exact Go.heap_alloc_new w2 _
 rw[← hW2];have x3:=((zu HX).ext Y2).setAt e2 (pc+1);have epc:((pc+1:Nat):Int)=(pc:Int)+1:=by omega
 rw[epc] at x3;have p1:=Y2.cell j1;have pf:W2.frozen? ⟨cb,bs.length * 3+1,none⟩=false:=((((zu HX).ext Y2).cb (by simp)).elim (fun c hc=>by
  have e:=hc.1;rw[e2] at e;injection e with e;injection e with e;subst e;exact hc.2.2.2.1 _))
 obtain⟨W3,hW3⟩:∃ W3,W3=W2.setCell ⟨cb,bs.length * 3+1,none⟩ (.int .i64 ((pc:Int)+1)):=⟨_,rfl⟩;rw[← hW3] at x3;have hcb2:w2.heap.size≠cb:=by omega
 have r3:W3.heap[w2.heap.size]? = some (.cells #[.int .i64 3,.int .i64 (q:Int),.int .i64 b] 132 (0,0)):=by rw[hW3,Below.heap_setCell _ _ _ _ hcb2];exact r2
 have t0:W3.cell? ⟨w2.heap.size,0,none⟩=some (.int .i64 3):=zr r3 0 rfl;have t1:W3.cell? ⟨w2.heap.size,1,none⟩=some (.int .i64 (q:Int)):=zr r3 1 rfl;have t2:W3.cell? ⟨w2.heap.size,2,none⟩=some (.int .i64 b):=zr r3 2 rfl;have q0:W2.cell? ⟨w2.heap.size,0,none⟩=some (.int .i64 3):=zr r2 0 rfl;have F3:SvF5 h.L w W3:=(SvF5.of hL Y2).trans x3.2;have X3:=zh x3.1;have HF3:=zh F3;have HR3:=zh r3;have HW3:=zh hW3;have q1:W2.cell? ⟨w2.heap.size,1,none⟩=some (.int .i64 (q:Int)):=zr r2 1 rfl;have q2:W2.cell? ⟨w2.heap.size,2,none⟩=some (.int .i64 b):=zr r2 2 rfl;obtain⟨g0,g1,g2,g3,g4,gf⟩:=x3.1.cells;simp only[List.length_append,List.length_cons,List.length_nil] at g1;rw[e1,hfl] at g0;rw[e2] at g1
 have f3:W3.cell? ⟨fb,fo+fn * 5+3,none⟩=some (.slice fca f.cs.length fcc):=by rw[World.cell?_of_block (w:=w) (F3.low fb hfb)];exact k3
 obtain⟨cb',e2',_,_,hcf3,hcell3⟩:=x3.1.cb (by simp);rw[e2] at e2';injection e2' with e2';injection e2' with e2';subst e2';obtain⟨n0,n1,n2⟩:=hcell3 bs.length (fn,pc+1,base) (by simp);simp only at n0 n1 n2;clear hcell3 x3 F3 r2 r3 hW2 hW3 l0 l1 l2 l3 l4 m0 m1 m2 m3 m4 v0 v1 vj0 gw c0 c1 c2 c3 c4 zf;have HPo:=zh (pop_v (zu X3) hn);have hwq:IntKind.i64.wrap ((base:Int)+(q:Int))=(base:Int)+(q:Int):=by rw[IntKind.wrap_i64];omega
 have hbq2:(base:Int)+(q:Int) < (us.length:Int):=by omega
 obtain⟨vb,e6,_,_,_,_⟩:=(zu X3).vb (by simp)
 go_wp2_with (go_at_call 32;rw[← zu HW3];refine Calls.mono (zu HPo) ?_;rintro e w5 ⟨rfl,hs,hf⟩;have HS5:=zh hs;have HF5:=zh hf;obtain⟨s0,s1,s2',s3,s4,sf⟩:=hs.cells;rw[e6] at s2';have y1:w5.cell? ⟨w2.heap.size,1,none⟩=some (.int .i64 (q:Int)):=zr (hf.typ _ _ _ _ (zu HR3) (by unfold T5;decide)) 1 rfl;obtain⟨cb5,e5c,_,_,cf5,hc5⟩:=hs.cb (by simp);rw[e2] at e5c;injection e5c with e5c;injection e5c with e5c;subst e5c;have n25:=(hc5 bs.length (fn,pc+1,base) (by simp)).2.2;obtain⟨vb5,e6',_,_,vf5,vc5⟩:=hs.vb (by omega);rw[e6] at e6';injection e6' with e6';injection e6' with e6';subst e6';obtain⟨ao,hao⟩:∃ ao,us[base+q]? = some ao:=⟨_,List.getElem?_eq_getElem hbq⟩;have n55:=vc5 _ _ hao;have HSV:=zh ((hs.ext (Ext.drew (Ext.refl w5))).setV e6 (base+q) ad);clear hs hf hc5 vc5 hao)
 go_still_tail 12,(by kernel_rfl)
 change wpList _ _ _ _ _ (World.drew w5)
 go_wp2_with fail
 go_ret;exact⟨rfl,(zu HSV).1,(((zu HF3).trans (zu HF5)).trans (SvF5.of (zu HS5).ltL (Ext.drew (Ext.refl w5)))).trans (zu HSV).2⟩
theorem enterOut (v u:Value) (w:World):(callFunc 62 #[v,u]).run Tryz.prog w = .ok (.enter 62 #[v,u]) w:=by kernel_rfl
theorem st_out (fns:List KF) (f:KF) {bs:List (Nat × Nat × Nat)} {fn pc base:Nat} (a b:Int) (hf:fns[fn]? = some f) (hi:f.code[pc]? = some ⟨11,a,b⟩) (hfl:h.fl=fns.length) (hp:RepP w (fun b=>b < h.L) h.fa fns) (x:SB h w (bs++[(fn,pc,base)]) ads fu ne evs d) (hbs:bs.length≤1000000) (hpc:pc≤1000000) (l:List SEv) (hl:ne=l.length) (hev:EvR l evs) (hfu:fu≤1000000) (hnl:l.length≤1000000) (us:List Addr) (ad:Addr) (hads:ads=us++[ad]) (hn:us.length≤1000000) (v:PV) (hP:PtV h.L w ad v):Calls Tryz.prog 29 #[.pointer (some ⟨h.g,0,none⟩)] w (TellS h w (bs++[(fn,pc+1,base)]) us fu l ⟨2,0,cp v⟩ d):=by
 obtain⟨c0,c1,c2,c3,c4,zf⟩:=x.cells;obtain⟨fb,fo,fca,fcc,fka,fkc,e1,hfb,k0,k1,k2,k3,k4,hcs,hcd⟩:=hp.at hf;obtain⟨ib,io,e3,hib,i0,i1,i2⟩:=hcd.at hi;subst e3;obtain⟨cb,e2,hcc,hcB,hcf,hcell⟩:=x.cb (by simp);obtain⟨j0,j1,j2⟩:=hcell bs.length (fn,pc,base) (by simp);simp only[List.length_append,List.length_cons,List.length_nil] at c1 hcc j0 j1 j2;rw[e2] at c1;rw[e1,hfl] at c0;have hfn:(fn:Int) < (fns.length:Int):=by have:=(List.getElem?_eq_some_iff.1 hf).1;omega
 have hpc2:(pc:Int) < (f.code.length:Int):=by have:=(List.getElem?_eq_some_iff.1 hi).1;omega
 have hwb:IntKind.i64.wrap (bs.length:Int)=(bs.length:Int):=by rw[IntKind.wrap_i64];omega
 have hbl:(bs.length:Int) < (bs.length:Int)+1:=by omega
 have hL:=x.ltL;have hg:=x.lt;have hcbw:=(x.oc.lt cb (by rw[e2];rfl)).2;have HX:=zh x;have HCS:=zh hcs;have gw:∀ {a:Addr} {u:Value},w.cell? a=some u→∀ v:RGw w,v.w.cell? a=some u:=fun h v=>v.h.cell h;have v0:=gw c0;have v1:=gw c1;have vj0:=gw j0;have hne:Nonempty (RGw w):=⟨⟨w,Ext.refl _⟩⟩;subst hl hads;obtain⟨vb1,vo1,sa1,sc1,e7,E7⟩:=hP;subst e7;have HE7:=zh E7;clear E7;clear x hp hf hi hcd hcell
 go_enter Tryz.func29,Tryz.ntmps29
 go_wp2_with fail
 refine wp_region_rx (W:=w) (by kernel_rfl) (by kernel_rfl) (Ext.refl _) ?_
 repeat (go_big_quiet_step (fail))
 refine wpQuiet_nil ?_;rintro w1 ⟨⟨_,hx1⟩,rfl⟩;have X1:=zh hx1;clear hx1
 go_wp2_with fail
 refine wp_region_rx (W:=w) (by kernel_rfl) (by kernel_rfl) (zu X1) ?_
 repeat (go_big_quiet_step (fail))
 refine wpQuiet_nil ?_;rintro w2 ⟨⟨_,hx2⟩,rfl⟩;have X2:=zh hx2;clear hx2;have l0:=(zu X2).cell k4;have l1:=(zu X2).cell j1;have l2:=(zu X2).cell i0;have l3:=(zu X2).cell i1;have l4:=(zu X2).cell i2;have hs2:=(zu X2).size;have m0:=fun ob=>(Ext.alloc w2 ob).cell l0;have m1:=fun ob=>(Ext.alloc w2 ob).cell l1;have m2:=fun ob=>(Ext.alloc w2 ob).cell l2;have m3:=fun ob=>(Ext.alloc w2 ob).cell l3;have m4:=fun ob=>(Ext.alloc w2 ob).cell l4
 go_wp2_with fail
 refine wp_oneS ?_;apply Exists.intro;apply Exists.intro;apply And.intro
 ·go_region_law (first | fail)
  all_goals exact nrm_outW ⟨rfl,rfl⟩
 obtain⟨W2,hW2⟩:∃ W2,W2=(w2.alloc (Obj.cells #[.int .i64 11,.int .i64 a,.int .i64 b] 132)).drew:=⟨_,rfl⟩;have Y2:Ext w W2:=by rw[hW2];exact(zu X2).trans (Ext.drew (Ext.alloc _ _))
 have s2:W2.heap.size=w2.heap.size+1:=by rw[hW2];simp
 have r2:W2.heap[w2.heap.size]? = some (.cells #[.int .i64 11,.int .i64 a,.int .i64 b] 132 (0,0)):=by rw[hW2];exact Go.heap_alloc_new w2 _
 rw[← hW2];have x3:=((zu HX).ext Y2).setAt e2 (pc+1);have epc:((pc+1:Nat):Int)=(pc:Int)+1:=by omega
 rw[epc] at x3;have p1:=Y2.cell j1;have pf:W2.frozen? ⟨cb,bs.length * 3+1,none⟩=false:=((((zu HX).ext Y2).cb (by simp)).elim (fun c hc=>by
  have e:=hc.1;rw[e2] at e;injection e with e;injection e with e;subst e;exact hc.2.2.2.1 _))
 obtain⟨W3,hW3⟩:∃ W3,W3=W2.setCell ⟨cb,bs.length * 3+1,none⟩ (.int .i64 ((pc:Int)+1)):=⟨_,rfl⟩;rw[← hW3] at x3;have hcb2:w2.heap.size≠cb:=by omega
 have r3:W3.heap[w2.heap.size]? = some (.cells #[.int .i64 11,.int .i64 a,.int .i64 b] 132 (0,0)):=by rw[hW3,Below.heap_setCell _ _ _ _ hcb2];exact r2
 have t0:W3.cell? ⟨w2.heap.size,0,none⟩=some (.int .i64 11):=zr r3 0 rfl;have t1:W3.cell? ⟨w2.heap.size,1,none⟩=some (.int .i64 a):=zr r3 1 rfl;have t2:W3.cell? ⟨w2.heap.size,2,none⟩=some (.int .i64 b):=zr r3 2 rfl;have q0:W2.cell? ⟨w2.heap.size,0,none⟩=some (.int .i64 11):=zr r2 0 rfl;have F3:SvF5 h.L w W3:=(SvF5.of hL Y2).trans x3.2;have X3:=zh x3.1;have HF3:=zh F3;have HR3:=zh r3;have HW3:=zh hW3;have q1:W2.cell? ⟨w2.heap.size,1,none⟩=some (.int .i64 a):=zr r2 1 rfl;have q2:W2.cell? ⟨w2.heap.size,2,none⟩=some (.int .i64 b):=zr r2 2 rfl;obtain⟨g0,g1,g2,g3,g4,gf⟩:=x3.1.cells;simp only[List.length_append,List.length_cons,List.length_nil] at g1;rw[e1,hfl] at g0;rw[e2] at g1
 have f3:W3.cell? ⟨fb,fo+fn * 5+3,none⟩=some (.slice fca f.cs.length fcc):=by rw[World.cell?_of_block (w:=w) (F3.low fb hfb)];exact k3
 obtain⟨cb',e2',_,_,hcf3,hcell3⟩:=x3.1.cb (by simp);rw[e2] at e2';injection e2' with e2';injection e2' with e2';subst e2';obtain⟨n0,n1,n2⟩:=hcell3 bs.length (fn,pc+1,base) (by simp);simp only at n0 n1 n2;clear hcell3 x3 F3 r2 r3 hW2 hW3 l0 l1 l2 l3 l4 m0 m1 m2 m3 m4 v0 v1 vj0 gw c0 c1 c2 c3 c4 zf;have hL3:=(zu X3).ltL;have HPo:=zh (pop_v ((zu X3).ext (Ext.drew (Ext.refl W3))) hn)
 go_wp2_with fail
 rw[← zu HW3];refine wp_nrm ?_
 go_region_law (first
  | (refine step_call_one rfl 32 (.tmp 143) 100 rfl _ (by simp[Act.eval,Act.put]) (enterPop _ _) (Calls.mono (zu HPo) ?_);rintro e w5 ⟨rfl,hs,hf⟩;refine⟨_,rfl,?_⟩;have FF:=((zu HF3).trans (SvF5.of hL3 (Ext.drew (Ext.refl W3)))).trans hf;have E5:=(zu HE7).to FF.nt;have z0:=E5.c0;have z1:=E5.c1;have z2:=E5.c2;have z3:=E5.c3;have z4:=E5.c4;obtain⟨s0,s1,s2',s3,s4,sf⟩:=hs.cells;have HO5:=zh (out_v l hs hev hfu hnl v _ _ _ _ _ E5.rep);have HF5:=zh FF;clear hs hf FF E5)
  | (have G:=zu HO5;clear G;refine step_call_two rfl 62 (.tmp 142) (.tmp 146) 61 33 rfl _ _ (by simp[Act.eval,Act.put]) (by simp[Act.eval,Act.put]) (enterOut _ _ _) (Calls.mono (zu HO5) ?_);rintro e w6 hT;unfold TellS at hT;have he:∃ v,e = .returned (.int .i64 v):=(by rcases hT.2 with⟨_,r,_⟩ | ⟨_,r,_⟩ <;> exact⟨_,r⟩);obtain⟨v6,rfl⟩:=he;refine⟨_,rfl,?_⟩;have HT6:=zh hT;clear hT))
 all_goals
  refine nrm_outW ?_
  go_wp2_with fail
  go_ret;unfold TellS;exact⟨(zu HF5).trans (zu HT6).1,(zu HT6).2⟩
end V
namespace V
variable {w w' w2:World} {h:SHd}
def flV:List SFr→List PV
 | [] => []
 | c :: r=>flV r++c.vs
def clR:List SFr→List (Nat × Nat × Nat)
 | [] => []
 | c :: r=>clR r++[(c.fn,c.pc,(flV r).length)]
theorem flV_len:∀ l:List SFr,(flV l).length=sLen l
 | []=>rfl
 | c :: r=>by rw[flV,List.length_append,flV_len r,sLen]
theorem clR_len:∀ l:List SFr,(clR l).length=l.length
 | []=>rfl
 | c :: r=>by rw[clR,List.length_append,clR_len r];rfl
def MR (h:SHd) (w:World) (cs:List (Nat × Nat × Nat)) (vs:List PV) (fu:Int) (l:List SEv):Prop:=∃ ads evs d,SB h w cs ads fu l.length evs d∧PtL h.L w ads vs∧EvR l evs
def StepR (h:SHd) (w:World) (s:SMc) (e:Int) (en:Ending) (w':World):Prop :=
 SvF5 h.L w w'∧((e = -1∧en = .returned (.int .i64 0)∧MR h w' [] (flV s.fr) s.fu s.ev)∨(e≠-1∧en = .returned (.int .i64 e)∧MR h w' (clR s.fr) (flV s.fr) s.fu s.ev))
def sStp (fns:List KF) (s:SMc):Option (SMc × Int):=if 900000 < sLen s.fr∨900000 < s.fr.length∨900000 < s.ev.length∨900000 < s.fu then none else sStep fns s
def sGo (fns:List KF):Nat→SMc→Option (SMc × Int)
 | 0,_=>none
 | k+1,s=>match sStp fns s with
  | none=>none
  | some (s',e)=>if e=0 then sGo fns k s' else some (s',e)
theorem PtL.repl {L:Nat} {ads:List Addr} {vs:List PV} {a:Addr} {p:PV} (x:PtL L w ads vs) (y:PtV L w a p):∀ m,PtL L w (ads++List.replicate m a) (vs++List.replicate m p)
 | 0=>by simpa using x
 | m+1=>by
  rw[List.replicate_succ',List.replicate_succ',← List.append_assoc,← List.append_assoc];exact(x.repl y m).snoc y
theorem step_m (fns:List KF) (s s':SMc) (e:Int) (hs:sStp fns s=some (s',e)) (hfl:h.fl=fns.length) (hp:RepP w (fun b=>b < h.L) h.fa fns) (hna:PtV h.L w h.na nilP) (hB:∀ f ∈ fns,f.code.length≤1000000) (hN:fns.length≤1000000) (x:MR h w (clR s.fr) (flV s.fr) s.fu s.ev):Calls Tryz.prog 29 #[.pointer (some ⟨h.g,0,none⟩)] w (StepR h w s' e):=by
 obtain⟨fr,fu,ev⟩:=s;obtain⟨ads,evs,d,x,hpt,hev⟩:=x;unfold sStp at hs
 split at hs
 ·cases hs
 rename_i hbd9;simp only at hbd9;unfold sStep at hs;cases fr with
 | nil=>cases hs
 | cons c r =>
 simp only at hs x hpt;have hfu:fu≤1000000:=by omega
 split at hs
 ·cases hs
 rename_i hbd;have hbd1:sLen (c :: r)≤1000000:=by omega
 have hbd2:(c :: r).length≤1000000:=by omega
 have hbd3:ev.length≤1000000:=by omega
 clear hbd;cases hf:fns[c.fn]? with
 | none=>rw[hf] at hs;cases hs
 | some f =>
 rw[hf] at hs;simp only at hs;cases hi:f.code[c.pc]? with
 | none=>rw[hi] at hs;cases hs
 | some i =>
 rw[hi] at hs;simp only at hs;obtain⟨fn,pc,vs⟩:=c;obtain⟨op,a,b⟩:=i;simp only at hf hi;have hbs:(clR r).length≤1000000:=by rw[clR_len];simp at hbd2;omega
 have hpc:pc≤1000000:=by
  have h1:=(List.getElem?_eq_some_iff.1 hi).1;have h2:=hB f (List.mem_of_getElem? hf);omega
 have hal:ads.length=(flV r).length+vs.length:=by rw[hpt.1,flV,List.length_append]
 have hal2:ads.length≤1000000:=by rw[hpt.1,flV_len];exact hbd1
 unfold sIns at hs;simp only at hs;by_cases o1:op=1
 ·rw[if_pos o1] at hs
  subst o1;cases hv:f.cs[a.toNat]? with
  | none=>rw[hv] at hs;cases hs
  | some v =>
  rw[hv] at hs;simp only at hs
  split at hs
  ·rename_i ha
   injection hs with hs;injection hs with h1 h2;subst h1 h2;refine Calls.mono (st_const fns f a b hf hi hfl hp x hbs hpc a.toNat (by omega) v hv hal2) ?_;rintro e w' ⟨rfl,⟨ad,va,vc,hs,hpv⟩,hF⟩;refine⟨hF,Or.inr ⟨by decide,rfl,_,_,_,hs,?_,hev⟩⟩;rw[flV,← List.append_assoc];exact(hpt.on hF).snoc hpv
  ·cases hs
 rw[if_neg o1] at hs;by_cases o2:op=2
 ·rw[if_pos o2] at hs
  subst o2;cases hv:vs[a.toNat]? with
  | none=>rw[hv] at hs;cases hs
  | some v =>
  rw[hv] at hs;simp only at hs
  split at hs
  ·rename_i ha
   injection hs with hs;injection hs with h1 h2;subst h1 h2;obtain⟨ad,had,hpv⟩:=hpt.at (i:=(flV r).length+a.toNat) (p:=v) (by rw[flV,List.getElem?_append_right (by omega),Nat.add_sub_cancel_left];exact hv);refine Calls.mono (st_load fns f a b hf hi hfl hp x hbs hpc a.toNat (by omega) ad had hal2) ?_;rintro e w' ⟨rfl,⟨va,vc,hs⟩,hF⟩;refine⟨hF,Or.inr ⟨by decide,rfl,_,_,_,hs,?_,hev⟩⟩;rw[flV,← List.append_assoc];exact(hpt.on hF).snoc (hpv.on hF)
  ·cases hs
 rw[if_neg o2] at hs;by_cases o3:op=3
 ·rw[if_pos o3] at hs
  subst o3;cases hv:sPop vs with
  | none=>rw[hv] at hs;cases hs
  | some uv =>
  obtain⟨us,v⟩:=uv;have e1:=sPop_some hv;rw[hv] at hs;simp only at hs
  split at hs
  ·rename_i ha
   injection hs with hs;injection hs with h1 h2;subst h1 h2;rw[flV,e1,← List.append_assoc] at hpt;obtain⟨us',ad,e2,hu,hpv⟩:=hpt.unsnoc;have hul:us'.length=(flV r).length+us.length:=by rw[hu.1,List.length_append]
   refine Calls.mono (st_store fns f a b hf hi hfl hp x hbs hpc a.toNat (by omega) us' ad e2 (by rw[e2] at hal2;simp at hal2;omega) (by omega)) ?_;rintro e w' ⟨rfl,hs,hF⟩;refine⟨hF,Or.inr ⟨by decide,rfl,_,_,_,hs,?_,hev⟩⟩;have h9:=(hu.on hF).set ((flV r).length+a.toNat) (hpv.on hF);rw[List.set_append_right _ _ (by omega),Nat.add_sub_cancel_left] at h9;exact h9
  ·cases hs
 rw[if_neg o3] at hs;by_cases o4:op=4
 ·rw[if_pos o4] at hs
  subst o4;cases hv:sPop vs with
  | none=>rw[hv] at hs;cases hs
  | some uv =>
  obtain⟨us,v⟩:=uv;have e1:=sPop_some hv;rw[hv] at hs;simp only at hs;injection hs with hs;injection hs with h1 h2;subst h1 h2;rw[flV,e1,← List.append_assoc] at hpt;obtain⟨us',ad,e2,hu,hpv⟩:=hpt.unsnoc;refine Calls.mono (st_pop fns f a b hf hi hfl hp x hbs hpc us' ad e2 (by rw[e2] at hal2;simp at hal2;omega)) ?_;rintro e w' ⟨rfl,hs,hF⟩;exact⟨hF,Or.inr ⟨by decide,rfl,_,_,_,hs,hu.on hF,hev⟩⟩
 rw[if_neg o4] at hs;by_cases o5:op=5
 ·rw[if_pos o5] at hs
  subst o5;cases hv:sPop vs with
  | none=>rw[hv] at hs;cases hs
  | some uv =>
  obtain⟨us,q⟩:=uv;have e1:=sPop_some hv;rw[hv] at hs;simp only at hs;cases hv2:sPop us with
  | none=>rw[hv2] at hs;cases hs
  | some uv2 =>
  obtain⟨ts,p⟩:=uv2;have e3:=sPop_some hv2;rw[hv2] at hs;simp only at hs;cases hbn:sBin a p q with
  | none=>rw[hbn] at hs;cases hs
  | some v =>
  rw[hbn] at hs;simp only at hs;injection hs with hs;injection hs with h1 h2;subst h1 h2;rw[flV,e1,← List.append_assoc,e3,← List.append_assoc] at hpt;obtain⟨us1,ad2,e2,hu1,hq⟩:=hpt.unsnoc;obtain⟨us2,ad1,e4,hu2,hp1⟩:=hu1.unsnoc;rw[e4] at e2;refine Calls.mono (st_bin fns f a b hf hi hfl hp x hbs hpc us2 ad1 ad2 e2 (by rw[e2] at hal;simp at hal;simp only[sLen] at hbd9;rw[← flV_len] at hbd9;omega) p q v hbn hp1 hq) ?_;rintro e w' ⟨rfl,⟨ad,va,vc,hs,hpv⟩,hF⟩;refine⟨hF,Or.inr ⟨by decide,rfl,_,_,_,hs,?_,hev⟩⟩;rw[flV,← List.append_assoc];exact(hu2.on hF).snoc hpv
 rw[if_neg o5] at hs;by_cases o7:op=7
 ·rw[if_pos o7] at hs
  subst o7
  split at hs
  ·rename_i ha
   injection hs with hs;injection hs with h1 h2;subst h1 h2;refine Calls.mono (st_jump fns f a b hf hi hfl hp x hbs hpc a.toNat (by omega)) ?_;rintro e w' ⟨rfl,hs,hF⟩;exact⟨hF,Or.inr ⟨by decide,rfl,_,_,_,hs,hpt.on hF,hev⟩⟩
  ·cases hs
 rw[if_neg o7] at hs;by_cases o8:op=8
 ·rw[if_pos o8] at hs
  subst o8;cases hv:sPop vs with
  | none=>rw[hv] at hs;cases hs
  | some uv =>
  obtain⟨us,v⟩:=uv;have e1:=sPop_some hv;rw[hv] at hs;simp only at hs
  split at hs
  ·rename_i ha
   rw[flV,e1,← List.append_assoc] at hpt;obtain⟨us',ad,e2,hu,hpv⟩:=hpt.unsnoc;have hul:us'.length≤1000000:=by rw[e2] at hal2;simp at hal2;omega
   injection hs with hs;injection hs with h1 h2;subst h1 h2;cases ht:truev (tk v) with
   | true =>
    refine Calls.mono (st_brz1 fns f a b hf hi hfl hp x hbs hpc a.toNat (by omega) us' ad e2 hul v hpv ht) ?_;rintro e w' ⟨rfl,hs,hF⟩;exact⟨hF,Or.inr ⟨by decide,rfl,_,_,_,hs,hu.on hF,hev⟩⟩
   | false =>
    refine Calls.mono (st_brz0 fns f a b hf hi hfl hp x hbs hpc a.toNat (by omega) us' ad e2 hul v hpv ht) ?_;rintro e w' ⟨rfl,hs,hF⟩;exact⟨hF,Or.inr ⟨by decide,rfl,_,_,_,hs,hu.on hF,hev⟩⟩
  ·cases hs
 rw[if_neg o8] at hs;by_cases o9:op=9
 ·rw[if_pos o9] at hs
  subst o9;cases hk:fns[a.toNat]? with
  | none=>rw[hk] at hs;cases hs
  | some kf =>
  rw[hk] at hs;simp only at hs
  split at hs
  ·rename_i ha
   injection hs with hs;injection hs with h1 h2;subst h1 h2;have hkl:=(List.getElem?_eq_some_iff.1 hk).1;simp only[List.length_cons] at hbd9;have hvl:(vs.take (vs.length - kf.ps.toNat)).length=vs.length - kf.ps.toNat:=by rw[List.length_take];omega
   refine Calls.mono (st_call fns f a b hf hi hfl hp x hbs hpc a.toNat (by omega) kf hk hal2 (by omega) kf.ps.toNat (kf.lc - kf.ps).toNat ((flV r).length+(vs.length - kf.ps.toNat)) (by omega) (by omega) (by omega) (by omega) (by omega) (by rw[clR_len];omega)) ?_;rintro e w' ⟨rfl,⟨ca,cc,va,vc,hs⟩,hF⟩;have ej:(flV r).length+(vs.length - kf.ps.toNat)=(flV (⟨fn,pc+1,vs.take (vs.length - kf.ps.toNat)⟩ :: r)).length:=by rw[flV,List.length_append,hvl]
   rw[ej] at hs;refine⟨hF,Or.inr ⟨by decide,rfl,_,_,_,hs,?_,hev⟩⟩;have h9:=(hpt.on hF).repl (hna.on hF) (kf.lc - kf.ps).toNat;have e9:flV (⟨a.toNat,0,vs.drop (vs.length - kf.ps.toNat)++List.replicate (kf.lc - kf.ps).toNat nilP⟩ :: ⟨fn,pc+1,vs.take (vs.length - kf.ps.toNat)⟩ :: r)=flV (⟨fn,pc,vs⟩ :: r)++List.replicate (kf.lc - kf.ps).toNat nilP:=by
    simp only[flV];rw[← List.append_assoc,List.append_assoc (flV r),List.take_append_drop]
   rw[e9];exact h9
  ·cases hs
 rw[if_neg o9] at hs;by_cases o10:op=10
 ·rw[if_pos o10] at hs
  subst o10;cases hv:sPop vs with
  | none=>rw[hv] at hs;cases hs
  | some uv =>
  obtain⟨us,v⟩:=uv;have e1:=sPop_some hv;rw[hv] at hs;simp only at hs;rw[flV,e1,← List.append_assoc] at hpt;obtain⟨us',ad,e2,hu,hpv⟩:=hpt.unsnoc;have hul:us'.length≤1000000:=by rw[e2] at hal2;simp at hal2;omega
  have hul2:us'.length=(flV r).length+us.length:=by rw[hu.1,List.length_append]
  have C:=st_ret fns f a b hf hi hfl hp x hbs hpc us' ad e2 hul (by omega);cases r with
  | nil =>
   simp only at hs;injection hs with hs;injection hs with h1 h2;subst h1 h2;refine Calls.mono C ?_;rintro e w' ⟨rfl,⟨va,vc,hs⟩,hF⟩;exact⟨hF,Or.inl ⟨rfl,rfl,_,_,_,hs,(PtL.nil (L:=h.L) (w:=w')).snoc (hpv.on hF),hev⟩⟩
  | cons g q =>
   simp only at hs;injection hs with hs;injection hs with h1 h2;subst h1 h2;refine Calls.mono C ?_;rintro e w' ⟨rfl,⟨va,vc,hs⟩,hF⟩;refine⟨hF,Or.inr ⟨by decide,rfl,_,_,_,hs,?_,hev⟩⟩;have h9:=((hu.on hF).take (flV (g :: q)).length).snoc (hpv.on hF);rw[List.take_left] at h9;have e9:flV (⟨g.fn,g.pc,g.vs++[v]⟩ :: q)=flV (g :: q)++[v]:=by simp only[flV];rw[List.append_assoc]
   show PtL h.L w' _ (flV (⟨g.fn,g.pc,g.vs++[v]⟩ :: q));rw[e9];exact h9
 rw[if_neg o10] at hs;by_cases o11:op=11
 ·rw[if_pos o11] at hs
  subst o11;cases hv:sPop vs with
  | none=>rw[hv] at hs;cases hs
  | some uv =>
  obtain⟨us,v⟩:=uv;have e1:=sPop_some hv;rw[hv] at hs;simp only at hs;rw[flV,e1,← List.append_assoc] at hpt;obtain⟨us',ad,e2,hu,hpv⟩:=hpt.unsnoc;have hul:us'.length≤1000000:=by rw[e2] at hal2;simp at hal2;omega
  refine Calls.mono (st_out fns f a b hf hi hfl hp x hbs hpc ev rfl hev hfu hbd3 us' ad e2 hul v hpv) ?_;rintro e w' ⟨hF,hT⟩;unfold SMc.tell at hs;simp only at hs;rcases hT with⟨h1,rfl,xs,h2,h3⟩ | ⟨h1,rfl,ea,ec,xs,h2,h3⟩
  ·rw[if_pos h1] at hs
   injection hs with hs;injection hs with h4 h5;subst h4 h5;exact⟨hF,Or.inr ⟨by decide,rfl,_,_,_,h3,hu.on hF,h2⟩⟩
  ·rw[if_neg (by omega)] at hs
   injection hs with hs;injection hs with h4 h5;subst h4 h5;exact⟨hF,Or.inr ⟨by decide,rfl,_,_,_,h3,hu.on hF,h2⟩⟩
 rw[if_neg o11] at hs;by_cases o12:op=12
 ·rw[if_pos o12] at hs
  subst o12;refine Calls.mono (st_tick fns f a b hf hi hfl hp x hbs hpc ev rfl hev hfu hbd3) ?_;rintro e w' ⟨hF,hT⟩;unfold SMc.tell at hs;simp only at hs;rcases hT with⟨h1,rfl,xs,h2,h3⟩ | ⟨h1,rfl,ea,ec,xs,h2,h3⟩
  ·rw[if_pos h1] at hs
   injection hs with hs;injection hs with h4 h5;subst h4 h5;exact⟨hF,Or.inr ⟨by decide,rfl,_,_,_,h3,hpt.on hF,h2⟩⟩
  ·rw[if_neg (by omega)] at hs
   injection hs with hs;injection hs with h4 h5;subst h4 h5;exact⟨hF,Or.inr ⟨by decide,rfl,_,_,_,h3,hpt.on hF,h2⟩⟩
 rw[if_neg o12] at hs;cases hs
end V
namespace V
variable {w w' w2:World} {h:SHd}
theorem fr34S (T:Array Value) (h:T.size=34):∃ u:Nat→Value,T = #[u 0,u 1,u 2,u 3,u 4,u 5,u 6,u 7,u 8,u 9,u 10,u 11,u 12,u 13,u 14,u 15,u 16,u 17,u 18,u 19,u 20,u 21,u 22,u 23,u 24,u 25,u 26,u 27,u 28,u 29,u 30,u 31,u 32,u 33]:=by
 refine⟨fun i=>T.getD i undef,?_⟩;have e:T=((List.range T.size).map (fun i=>T.getD i undef)).toArray:=by
  apply Array.ext
  ·simp
  ·intro i h1 h2
   simp[h1]
 rw[h] at e;exact e
def EvAt (w:World) (a:Option Addr) (l:List SEv):Prop:=∃ evs,EvR l evs∧(evs = []∨∃ (b:Nat) (cur:Array Value),a=some ⟨b,0,none⟩∧w.heap[b]? = some (.cells cur 44 (0,0))∧∀ (j:Nat) (u:Value),evs[j]? = some u→w.cell? ⟨b,j,none⟩=some u)
theorem SB.evAt {cs:List (Nat × Nat × Nat)} {ads:List Addr} {fu:Int} {l:List SEv} {evs:List Value} {d:SAd} (x:SB h w cs ads fu l.length evs d) (hev:EvR l evs):EvAt w d.ea l:=by
 refine⟨evs,hev,?_⟩;rcases id x.oe.2 with⟨e,e0⟩ | ⟨b,cap,cur,e,hb,hg,hn2,hm,_⟩
 ·have h1:=x.oe.1
  rw[e0,Nat.zero_mul] at h1;exact Or.inl (List.length_eq_zero_iff.1 h1)
 ·injection e with e1 e2 e3
  refine Or.inr ⟨b,cur,e1,hg,fun j u hj => ?_⟩;have:=x.oe.cells (g:=b) (by rw[e1];rfl) j u hj;have e:(⟨b,0,none⟩:Addr).add j=⟨b,j,none⟩:=by cases j <;> simp[Addr.add]
  rw[e] at this;exact this
theorem EvAt.keep {l:List SEv} {a:Option Addr} (x:EvAt w a l) (k:∀ (b:Nat) (cur:Array Value),w.heap[b]? = some (.cells cur 44 (0,0))→w'.heap[b]? = w.heap[b]?):EvAt w' a l:=by
 obtain⟨evs,h1,h2⟩:=x;refine⟨evs,h1,?_⟩;rcases h2 with h2 | ⟨b,cur,e,hb,hc⟩
 ·exact Or.inl h2
 ·exact Or.inr ⟨b,cur,e,(k b cur hb).trans hb,fun j u hj=>by rw[World.cell?_of_block (w:=w) (k b cur hb)];exact hc j u hj⟩
theorem EvAt.on {l:List SEv} {a:Option Addr} (x:EvAt w a l) (k:Ext w w'):EvAt w' a l:=x.keep fun b cur hb=>k.block b (Array.getElem?_eq_some_iff.1 hb).1
abbrev set7 (w:World) (b:Nat) (c0 c1 c2 c3 c4 c5 c6:Value):World:=((((((w.setCell ⟨b,0,none⟩ c0).setCell ⟨b,1,none⟩ c1).setCell ⟨b,2,none⟩ c2).setCell ⟨b,3,none⟩ c3).setCell ⟨b,4,none⟩ c4).setCell ⟨b,5,none⟩ c5).setCell ⟨b,6,none⟩ c6
theorem set7_row {b:Nat} {d0 d1 d2 d3 d4 d5 d6:Value} {t:TypeId} (hr:w.heap[b]? = some (.cells #[d0,d1,d2,d3,d4,d5,d6] t (0,0))) (c0 c1 c2 c3 c4 c5 c6:Value):(((((((w.setCell ⟨b,0,none⟩ c0).setCell ⟨b,1,none⟩ c1).setCell ⟨b,2,none⟩ c2).setCell ⟨b,3,none⟩ c3).setCell ⟨b,4,none⟩ c4).setCell ⟨b,5,none⟩ c5).setCell ⟨b,6,none⟩ c6).heap[b]? = some (.cells #[c0,c1,c2,c3,c4,c5,c6] t (0,0)):=by
 have h0:(w.setCell ⟨b,0,none⟩ c0).heap[b]? = some (.cells #[c0,d1,d2,d3,d4,d5,d6] t (0,0)):=row_set hr 0 c0;generalize w.setCell ⟨b,0,none⟩ c0=w1 at h0 ⊢;have h1:(w1.setCell ⟨b,1,none⟩ c1).heap[b]? = some (.cells #[c0,c1,d2,d3,d4,d5,d6] t (0,0)):=row_set h0 1 c1;generalize w1.setCell ⟨b,1,none⟩ c1=w2 at h1 ⊢;have h2:(w2.setCell ⟨b,2,none⟩ c2).heap[b]? = some (.cells #[c0,c1,c2,d3,d4,d5,d6] t (0,0)):=row_set h1 2 c2;generalize w2.setCell ⟨b,2,none⟩ c2=w3 at h2 ⊢;have h3:(w3.setCell ⟨b,3,none⟩ c3).heap[b]? = some (.cells #[c0,c1,c2,c3,d4,d5,d6] t (0,0)):=row_set h2 3 c3;generalize w3.setCell ⟨b,3,none⟩ c3=w4 at h3 ⊢;have h4:(w4.setCell ⟨b,4,none⟩ c4).heap[b]? = some (.cells #[c0,c1,c2,c3,c4,d5,d6] t (0,0)):=row_set h3 4 c4;generalize w4.setCell ⟨b,4,none⟩ c4=w5 at h4 ⊢
 have h5:(w5.setCell ⟨b,5,none⟩ c5).heap[b]? = some (.cells #[c0,c1,c2,c3,c4,c5,d6] t (0,0)):=row_set h4 5 c5;generalize w5.setCell ⟨b,5,none⟩ c5=w6 at h5 ⊢;exact row_set h5 6 c6
theorem set7_off {b q:Nat} (hq:q≠b) (c0 c1 c2 c3 c4 c5 c6:Value):(set7 w b c0 c1 c2 c3 c4 c5 c6).heap[q]? = w.heap[q]?:=by
 unfold set7;rw[Below.heap_setCell _ _ _ _ hq,Below.heap_setCell _ _ _ _ hq,Below.heap_setCell _ _ _ _ hq,Below.heap_setCell _ _ _ _ hq,Below.heap_setCell _ _ _ _ hq,Below.heap_setCell _ _ _ _ hq,Below.heap_setCell _ _ _ _ hq]
theorem SvF5.set7 {L b:Nat} (x:SvF5 L w w') (hb:w.heap.size≤b) (hL:L≤w.heap.size) (c0 c1 c2 c3 c4 c5 c6:Value):SvF5 L w (V.set7 w' b c0 c1 c2 c3 c4 c5 c6):=((((((x.setN hb hL _ _).setN hb hL _ _).setN hb hL _ _).setN hb hL _ _).setN hb hL _ _).setN hb hL _ _).setN hb hL _ _
def RunR (h:SHd) (w:World) (s:SMc) (e:Int) (q:PV) (en:Ending) (w':World):Prop :=
 SvF5 h.L w w'∧∃ ea ec a cap,en = .returned (trV ea s.ev.length ec (.int .i64 q.k) (.int .i64 q.n) (.complex .f64 q.re q.im) (.string q.s) (.slice a q.l.length cap) (if e = -1 then 0 else e))∧EvAt w' ea s.ev
theorem sGo_fr {fns:List KF} {k:Nat} {s:SMc} {x:SMc × Int} (hg:sGo fns k s=some x):0 < s.fr.length:=by
 cases k with
 | zero=>cases hg
 | succ k =>
  rw[sGo] at hg;cases hf:s.fr with
  | nil =>
   have:sStp fns s=none:=by
    unfold sStp sStep;rw[hf]
    split <;> rfl
   rw[this] at hg;cases hg
  | cons c r=>simp
theorem enterRet (v u:Value) (w:World):(callFunc 31 #[v,u]).run Tryz.prog w = .ok (.enter 31 #[v,u]) w:=by kernel_rfl
theorem run_m (fns:List KF) (main K:Nat) (f:KF) (s1:SMc) (e:Int) (q v:PV) (hf:fns[main]? = some f) (lc:Nat) (hps:f.ps=0) (hlc:f.lc=(lc:Int)) (hlb:lc≤1000) (fu:Int) (d:SAd) (hfl:h.fl=fns.length) (hp:RepP w (fun b=>b < h.L) h.fa fns) (hna:PtV h.L w h.na nilP) (hB:∀ f ∈ fns,f.code.length≤1000000) (hN:fns.length≤1000000) (x:SB h w [] [] fu 0 [] d)
  (hg:sGo fns K ⟨[⟨main,0,List.replicate lc nilP⟩],fu,[]⟩=some (s1,e)) (he1:e = -1→flV s1.fr = [v]∧q=cp v) (he2:e≠-1→q=nilP):Calls Tryz.prog 18 #[.pointer (some ⟨h.g,0,none⟩),.int .i64 (main:Int)] w (RunR h w s1 e q):=by
 have hL:=x.ltL;obtain⟨W0,hW0⟩:∃ W0,W0=w.alloc (.cells #[.slice none 0 0,.int .i64 0,.int .i64 0,.complex .f64 0 0,.string ⟨#[]⟩,.slice none 0 0,.int .i64 0] 36):=⟨_,rfl⟩;have X0:Ext w W0:=by rw[hW0];exact Ext.alloc _ _
 have r0:W0.heap[w.heap.size]? = some (.cells #[.slice none 0 0,.int .i64 0,.int .i64 0,.complex .f64 0 0,.string ⟨#[]⟩,.slice none 0 0,.int .i64 0] 36 (0,0)):=by rw[hW0];exact Go.heap_alloc_new w _
 have F0:SvF5 h.L w W0:=SvF5.of hL X0;have HOp:=zh (open_v fns main f hf hfl (RepP.to (fun b hb=>⟨hb,F0.low b hb⟩) hp) (x.ext X0) (by simp) (by simp) (by have:=(List.getElem?_eq_some_iff.1 hf).1;omega) 0 lc 0 (by simpa using hps) (by simpa using hlc) (by omega) hlb (by simp));have HSt:=zh (fun (W:World) (F:SvF5 h.L w W) (s s':SMc) (e':Int) (hs:sStp fns s=some (s',e')) (y:MR h W (clR s.fr) (flV s.fr) s.fu s.ev)=>step_m fns s s' e' hs hfl (RepP.to (fun b hb=>⟨hb,F.low b hb⟩) hp) (hna.on F) hB hN y);have HNa:=zh hna;have HW0:=zh hW0;have HF0:=zh F0;have HR0:=zh r0;have HG:=zh hg;have HE1:=zh he1;have HE2:=zh he2;clear x hp hna hg he1 he2 r0 F0 X0 hW0 hps hlc hf
 go_enter Tryz.func18,Tryz.ntmps18
 go_wp2_with fail
 rw[← zu HW0];refine k_scope_loop 0 (fun k a' wr => ∃ (s:SMc),a'.defers = []∧a'.tmps.size=34∧a'.tmps[0]? = some (.pointer (some ⟨h.g,0,none⟩))∧a'.tmps[4]? = some (.pointer (some ⟨w.heap.size,0,none⟩))∧Hd (sGo fns k s=some (s1,e))∧Hd (MR h wr (clR s.fr) (flV s.fr) s.fu s.ev)∧Hd (SvF5 h.L W0 wr)) rfl ?_ ?_
 ·rintro k ⟨TT,dd⟩ wr ⟨s,hd,hT,h0,h4,hG,hM,hF⟩
  obtain rfl:dd = []:=hd;obtain⟨u,rfl⟩:=fr34S TT hT;have e0:u 0 = .pointer (some ⟨h.g,0,none⟩):=Option.some.inj h0;have e4:u 4 = .pointer (some ⟨w.heap.size,0,none⟩):=Option.some.inj h4;rw[e0,e4];clear e0 e4 h0 h4 hT;cases k with
  | zero=>cases (zu hG)
  | succ k =>
  have hG2:=zu hG;rw[sGo] at hG2;cases hs:sStp fns s with
  | none=>rw[hs] at hG2;cases hG2
  | some se =>
  obtain⟨s',e'⟩:=se;rw[hs] at hG2;simp only at hG2;have C:=zu HSt wr ((zu HF0).trans (zu hF)) s s' e' hs (zu hM);by_cases hz:e' = 0
  ·rw[if_pos hz] at hG2
   subst hz;have C2:Hd (Calls Tryz.prog 29 #[.pointer (some ⟨h.g,0,none⟩)] wr fun en w'=>en = .returned (.int .i64 0)∧SvF5 h.L wr w'∧MR h w' (clR s'.fr) (flV s'.fr) s'.fu s'.ev):=Calls.mono C (by
    rintro en w' ⟨hF1,⟨h1,_⟩ | ⟨_,h2,h3⟩⟩
    ·cases h1
    ·exact⟨h2,hF1,h3⟩)
   have hlen:=sGo_fr hG2;have HG2:=zh hG2;clear C hs hG2 hM
   go_wp2_with (go_at_call 29;refine Calls.mono (zu C2) ?_;rintro en w5 ⟨rfl,hf5,hm5⟩;have HF5:=zh ((zu hF).trans hf5);have HM5:=zh hm5;have hm6:=hm5;obtain⟨ads5,evs5,d5,x5,_,_⟩:=hm6;have c1:=x5.cells.2.1;rw[clR_len] at c1;have hlen2:(0:Int) < (s'.fr.length:Int):=(by omega);clear hf5 hm5 x5)
   refine wp_goto ?_;exact⟨rfl,k,by omega,s',rfl,rfl,rfl,rfl,HG2,HM5,HF5⟩
  ·rw[if_neg hz] at hG2
   injection hG2 with hG2;injection hG2 with g1 g2;subst g1 g2;clear hs;by_cases hm1:e' = -1
   ·obtain⟨q1,q2⟩:=zu HE1 hm1
    have C2:Hd (Calls Tryz.prog 29 #[.pointer (some ⟨h.g,0,none⟩)] wr fun en w'=>en = .returned (.int .i64 0)∧SvF5 h.L wr w'∧MR h w' [] [v] s'.fu s'.ev):=Calls.mono C (by
     rintro en w' ⟨hF1,⟨_,h2,h3⟩ | ⟨h1,_⟩⟩
     ·rw[q1] at h3;exact⟨h2,hF1,h3⟩
     ·exact absurd hm1 h1)
    have HQ2:=zh q2;have HM1:=zh hm1;clear C hM q1 q2 hm1 hz
    go_wp2_with (go_at_call 29;refine Calls.mono (zu C2) ?_;rintro en w5 ⟨rfl,hf5,hm5⟩;have HF5:=zh ((zu hF).trans hf5);obtain⟨ads5,evs5,d5,x5,p5,v5⟩:=hm5;obtain⟨us5,ad5,ea5,pu5,pv5⟩:=PtL.unsnoc (vs:=[]) p5;have hu5:us5 = []:=List.length_eq_zero_iff.1 pu5.1;subst hu5;subst ea5;have c1:=x5.cells.2.1;have c4:=x5.cells.2.2.2.2.1;simp only[List.length_nil] at c1;have HX5:=zh x5;have HP5:=zh pv5;have HV5:=zh v5;clear hf5 p5 pu5 pv5 v5 x5)
    obtain⟨vb1,vo1,sa1,sc1,e7,E7⟩:=zu HP5;subst e7;have HE7:=zh E7;have XD:Ext w5 (World.drew w5):=Ext.drew (Ext.refl w5);have HPo:=zh (pop_v (us:=[]) ((zu HX5).ext XD) (by simp));have HXD:=zh XD;have hL5:=(zu HX5).ltL;clear E7 XD HP5;refine wp_nrm ?_
    go_region_law (first
     | (refine step_call_one rfl 32 (.tmp 29) 100 rfl _ (by simp[Act.eval,Act.put]) (enterPop _ _) (Calls.mono (zu HPo) ?_);rintro e6 w6 ⟨rfl,hs,hf⟩;refine⟨_,rfl,?_⟩;have FF:=(SvF5.of hL5 (zu HXD)).trans hf;have E6:=(zu HE7).to FF.nt;have z0:=E6.c0;have z1:=E6.c1;have z2:=E6.c2;have z3:=E6.c3;have z4:=E6.c4;obtain⟨s0,s1',s2',s3,s4,sf⟩:=hs.cells;have HRt:=zh (returned_v hs v _ _ _ _ _ (Rep.to (w':=w6) (F:=NT h.L w6) (F':=In w6) (fun b hb=>⟨hb.1,rfl⟩) _ _ E6.rep));have HS6:=zh hs;have HF6:=zh FF;clear hs hf FF E6)
     | (have G:=zu HRt;clear G;refine step_call_two rfl 31 (.tmp 28) (.tmp 32) 61 33 rfl _ _ (by simp[Act.eval,Act.put]) (by simp[Act.eval,Act.put]) (enterRet _ _ _) (Calls.mono (zu HRt) ?_);rintro e7 w7 ⟨a7,cap7,rfl,hx7⟩;refine⟨_,rfl,?_⟩;have r7:=hx7.row ((zu HF6).typ _ _ _ _ ((zu HF5).typ _ _ _ _ (zu HR0) (by unfold T5;decide)) (by unfold T5;decide));have t0:=zr r7 0 rfl;have t1:=zr r7 1 rfl;have t2:=zr r7 2 rfl;have t3:=zr r7 3 rfl;have t4:=zr r7 4 rfl;have t5:=zr r7 5 rfl;have t6:=zr r7 6 rfl;have tf:=fun i=>rowF r7 i;have HR6:=zh r7;have HX7:=zh hx7;clear hx7 r7))
    all_goals
     refine nrm_outW ?_
     go_wp2_with fail
     obtain⟨W9,hW9⟩:∃ W9,W9=(((((((w7.setCell ⟨w.heap.size,0,none⟩ (.slice d5.ea s'.ev.length d5.ec)).setCell ⟨w.heap.size,1,none⟩ (.int .i64 (cp v).k)).setCell ⟨w.heap.size,2,none⟩ (.int .i64 (cp v).n)).setCell ⟨w.heap.size,3,none⟩ (.complex .f64 (cp v).re (cp v).im)).setCell ⟨w.heap.size,4,none⟩ (.string (cp v).s)).setCell ⟨w.heap.size,5,none⟩ (.slice a7 (cp v).l.length cap7)).setCell ⟨w.heap.size,6,none⟩ (.int .i64 0)):=⟨_,rfl⟩;rw[← hW9];have b9:W9.heap[w.heap.size]? = some (.cells #[.slice d5.ea s'.ev.length d5.ec,(.int .i64 (cp v).k),(.int .i64 (cp v).n),(.complex .f64 (cp v).re (cp v).im),(.string (cp v).s),(.slice a7 (cp v).l.length cap7),.int .i64 0] 36 (0,0)):=by rw[hW9];exact set7_row (zu HR6) _ _ _ _ _ _ _
     have F9:SvF5 h.L w W9:=by rw[hW9];exact SvF5.set7 ((((zu HF0).trans (zu HF5)).trans (zu HF6)).trans (SvF5.of (zu HS6).ltL (zu HX7))) (Nat.le_refl _) hL _ _ _ _ _ _ _
     have V9:EvAt W9 d5.ea s'.ev:=by
      refine EvAt.keep (((zu HS6).evAt (zu HV5)).on (zu HX7)) fun b cur hb => ?_;rw[hW9];refine set7_off (fun e9 => ?_) _ _ _ _ _ _ _;subst e9;rw[zu HR6] at hb;injection hb with hb;injection hb with _ hb _;exact absurd hb (by decide)
     have u0:W9.cell? ⟨w.heap.size,0,none⟩=some (.slice d5.ea s'.ev.length d5.ec):=zr b9 0 rfl;have u1:W9.cell? ⟨w.heap.size,1,none⟩=some ((.int .i64 (cp v).k)):=zr b9 1 rfl;have u2:W9.cell? ⟨w.heap.size,2,none⟩=some ((.int .i64 (cp v).n)):=zr b9 2 rfl;have u3:W9.cell? ⟨w.heap.size,3,none⟩=some ((.complex .f64 (cp v).re (cp v).im)):=zr b9 3 rfl;have u4:W9.cell? ⟨w.heap.size,4,none⟩=some ((.string (cp v).s)):=zr b9 4 rfl;have u5:W9.cell? ⟨w.heap.size,5,none⟩=some ((.slice a7 (cp v).l.length cap7)):=zr b9 5 rfl;have u6:W9.cell? ⟨w.heap.size,6,none⟩=some (.int .i64 0):=zr b9 6 rfl;clear hW9 t0 t1 t2 t3 t4 t5 t6 tf;simp only[Exit.jump]
     exact bodyPost_ret (v:=trV d5.ea s'.ev.length d5.ec ((.int .i64 (cp v).k)) ((.int .i64 (cp v).n)) ((.complex .f64 (cp v).re (cp v).im)) ((.string (cp v).s)) ((.slice a7 (cp v).l.length cap7)) 0) (by simp[results,Tryz.results18,go_sem,u0,u1,u2,u3,u4,u5,u6]) rfl ⟨F9,d5.ea,d5.ec,a7,cap7,(by rw[if_pos (zu HM1),zu HQ2]),V9⟩
   ·have C2:Hd (Calls Tryz.prog 29 #[.pointer (some ⟨h.g,0,none⟩)] wr fun en w'=>en = .returned (.int .i64 e')∧SvF5 h.L wr w'∧MR h w' (clR s'.fr) (flV s'.fr) s'.fu s'.ev):=Calls.mono C (by
     rintro en w' ⟨hF1,⟨h1,_⟩ | ⟨_,h2,h3⟩⟩
     ·exact absurd h1 hm1
     ·exact⟨h2,hF1,h3⟩)
    have hq:=zu HE2 hm1;have HM1:=zh hm1;have hne0:(e' == 0)=false:=by rw[beq_eq_false_iff_ne];exact hz
    have hne1:(e' != 0)=true:=by rw[bne_iff_ne];exact hz
    clear C hM hm1
    go_wp2_with (first
     | (go_at_call 29;refine Calls.mono (zu C2) ?_;rintro en w5 ⟨rfl,hf5,hm5⟩;have HF5:=zh ((zu hF).trans hf5);obtain⟨ads5,evs5,d5,x5,p5,v5⟩:=hm5;have c4:=x5.cells.2.2.2.2.1;have HEn:=zh (ended_v x5 e');have HX5:=zh x5;have HV5:=zh (x5.evAt v5);clear hf5 p5 v5 x5)
     | (go_at_call 30;refine Calls.mono (zu HEn) ?_;rintro en w6 ⟨rfl,hx6⟩;have r6:=hx6.row ((zu HF5).typ _ _ _ _ (zu HR0) (by unfold T5;decide));have t0:=zr r6 0 rfl;have t1:=zr r6 1 rfl;have t2:=zr r6 2 rfl;have t3:=zr r6 3 rfl;have t4:=zr r6 4 rfl;have t5:=zr r6 5 rfl;have t6:=zr r6 6 rfl;have tf:=fun i=>rowF r6 i;have HR6:=zh r6;have HX6:=zh hx6;clear hx6 r6))
    obtain⟨W9,hW9⟩:∃ W9,W9=(((((((w6.setCell ⟨w.heap.size,0,none⟩ (.slice d5.ea s'.ev.length d5.ec)).setCell ⟨w.heap.size,1,none⟩ (.int .i64 0)).setCell ⟨w.heap.size,2,none⟩ (.int .i64 0)).setCell ⟨w.heap.size,3,none⟩ (.complex .f64 0 0)).setCell ⟨w.heap.size,4,none⟩ (.string ⟨#[]⟩)).setCell ⟨w.heap.size,5,none⟩ (.slice none 0 0)).setCell ⟨w.heap.size,6,none⟩ (.int .i64 e')):=⟨_,rfl⟩;rw[← hW9];have b9:W9.heap[w.heap.size]? = some (.cells #[.slice d5.ea s'.ev.length d5.ec,(.int .i64 0),(.int .i64 0),(.complex .f64 0 0),(.string ⟨#[]⟩),(.slice none 0 0),.int .i64 e'] 36 (0,0)):=by rw[hW9];exact set7_row (zu HR6) _ _ _ _ _ _ _
    have F9:SvF5 h.L w W9:=by rw[hW9];exact SvF5.set7 (((zu HF0).trans (zu HF5)).trans (SvF5.of (zu HX5).ltL (zu HX6))) (Nat.le_refl _) hL _ _ _ _ _ _ _
    have V9:EvAt W9 d5.ea s'.ev:=by
     refine EvAt.keep ((zu HV5).on (zu HX6)) fun b cur hb => ?_;rw[hW9];refine set7_off (fun e9 => ?_) _ _ _ _ _ _ _;subst e9;rw[zu HR6] at hb;injection hb with hb;injection hb with _ hb _;exact absurd hb (by decide)
    have u0:W9.cell? ⟨w.heap.size,0,none⟩=some (.slice d5.ea s'.ev.length d5.ec):=zr b9 0 rfl;have u1:W9.cell? ⟨w.heap.size,1,none⟩=some ((.int .i64 0)):=zr b9 1 rfl;have u2:W9.cell? ⟨w.heap.size,2,none⟩=some ((.int .i64 0)):=zr b9 2 rfl;have u3:W9.cell? ⟨w.heap.size,3,none⟩=some ((.complex .f64 0 0)):=zr b9 3 rfl;have u4:W9.cell? ⟨w.heap.size,4,none⟩=some ((.string ⟨#[]⟩)):=zr b9 4 rfl;have u5:W9.cell? ⟨w.heap.size,5,none⟩=some ((.slice none 0 0)):=zr b9 5 rfl;have u6:W9.cell? ⟨w.heap.size,6,none⟩=some (.int .i64 e'):=zr b9 6 rfl;clear hW9 t0 t1 t2 t3 t4 t5 t6 tf;simp only[Exit.jump]
    exact bodyPost_ret (v:=trV d5.ea s'.ev.length d5.ec ((.int .i64 0)) ((.int .i64 0)) ((.complex .f64 0 0)) ((.string ⟨#[]⟩)) ((.slice none 0 0)) e') (by simp[results,Tryz.results18,go_sem,u0,u1,u2,u3,u4,u5,u6]) rfl ⟨F9,d5.ea,d5.ec,none,0,(by rw[if_neg (zu HM1),hq];rfl),V9⟩
 ·intro H
  have H1:=zh H;clear H
  go_wp2_with (go_at_call 28;refine Calls.mono (zu HOp) ?_;rintro en w5 ⟨rfl,⟨ca5,cc5,va5,vc5,hs⟩,hf⟩;have HS5:=zh hs;have HF5:=zh hf;clear hs hf)
  refine wp_label ?_;rename_i hKK;refine hKK _ _ ?_;refine zu H1 K _ _ ⟨⟨[⟨main,0,List.replicate lc nilP⟩],fu,[]⟩,rfl,rfl,rfl,rfl,HG,?_,HF5⟩;refine⟨_,_,_,zu HS5,?_,rfl⟩;exact(PtL.nil (L:=h.L) (w:=w5)).repl ((zu HNa).on ((zu HF0).trans (zu HF5))) lc
end V
end Go.Proofs.YtdnclahaejlehaaGreat
