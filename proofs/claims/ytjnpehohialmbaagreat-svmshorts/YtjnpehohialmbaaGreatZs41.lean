/- The machine with a stack: instructions. -/
import Derived.Test.YtjnpehohialmbaaGreatZs40
set_option linter.unusedSimpArgs false
set_option linter.unusedVariables false
set_option maxRecDepth 10000
set_option maxHeartbeats 2000000
namespace Go.Proofs.YtjnpehohialmbaaGreat
open Go.RowKit
namespace V
variable {w w' w2:World} {h:SHd} {cs:List (Nat × Nat × Nat)} {ads:List Addr} {fu:Int} {ne:Nat} {evs:List Value} {d:SAd}
theorem st_call (fns:List KF) (f:KF) {bs:List (Nat × Nat × Nat)} {fn pc base:Nat} (a b:Int) (hf:fns[fn]? = some f) (hi:f.code[pc]? = some ⟨9,a,b⟩) (hfl:h.fl=fns.length) (hp:RepP w (fun b=>b < h.L) h.fa fns) (x:SB h w (bs++[(fn,pc,base)]) ads fu ne evs d) (hbs:bs.length≤1000000) (hpc:pc≤1000000) (k:Nat) (hka:a=(k:Int)) (kf:KF) (hkf:fns[k]? = some kf) (h1:ads.length≤1000000) (hkb:k≤1000000) (p m j:Nat) (hps:kf.ps=(p:Int)) (hlc:kf.lc=(p:Int)+(m:Int)) (hpb:p≤1000) (hm:m≤1000) (hj:ads.length=j+p) (hbs2:bs.length≤999990):Calls Tryz.prog 23 #[.pointer (some ⟨h.g,0,none⟩)] w fun e w'=>e = .returned (.int .i64 0)∧(∃ ca cc va vc,SB h w' (bs++[(fn,pc+1,base)]++[(k,0,j)]) (ads++List.replicate m h.na) fu ne evs { d with ca:=ca,cc:=cc,va:=va,vc:=vc })∧SvF5 h.L w w':=by
 obtain⟨c0,c1,c2,c3,c4,zf⟩:=x.cells;obtain⟨fb,fo,fca,fcc,fka,fkc,e1,hfb,k0,k1,k2,k3,k4,hcs,hcd⟩:=hp.at hf;obtain⟨ib,io,e3,hib,i0,i1,i2⟩:=hcd.at hi;subst e3;obtain⟨cb,e2,hcc,hcB,hcf,hcell⟩:=x.cb (by simp);obtain⟨j0,j1,j2⟩:=hcell bs.length (fn,pc,base) (by simp);simp only[List.length_append,List.length_cons,List.length_nil] at c1 hcc j0 j1 j2;rw[e2] at c1;rw[e1,hfl] at c0;have hfn:(fn:Int) < (fns.length:Int):=by have:=(List.getElem?_eq_some_iff.1 hf).1;omega
 have hpc2:(pc:Int) < (f.code.length:Int):=by have:=(List.getElem?_eq_some_iff.1 hi).1;omega
 have hwb:IntKind.i64.wrap (bs.length:Int)=(bs.length:Int):=by rw[IntKind.wrap_i64];omega
 have hbl:(bs.length:Int) < (bs.length:Int)+1:=by omega
 have hL:=x.ltL;have hg:=x.lt;have hcbw:=(x.oc.lt cb (by rw[e2];rfl)).2;have HX:=zh x;have HCS:=zh hcs;have gw:∀ {a:Addr} {u:Value},w.cell? a=some u→∀ v:RGw w,v.w.cell? a=some u:=fun h v=>v.h.cell h;have v0:=gw c0;have v1:=gw c1;have vj0:=gw j0;have hne:Nonempty (RGw w):=⟨⟨w,Ext.refl _⟩⟩;subst hka;have HRp:=zh hp;clear x hp hf hi hcd hcell
 go_enter Tryz.func23,Tryz.ntmps23
 go_wp2_with fail
 refine wp_region_rx (W:=w) (by kernel_rfl) (by kernel_rfl) (Ext.refl _) ?_
 repeat (go_big_quiet_step (fail))
 refine wpQuiet_nil ?_;rintro w1 ⟨⟨_,hx1⟩,rfl⟩;have X1:=zh hx1;clear hx1
 go_wp2_with fail
 refine wp_region_rx (W:=w) (by kernel_rfl) (by kernel_rfl) (zu X1) ?_
 repeat (go_big_quiet_step (fail))
 refine wpQuiet_nil ?_;rintro w2 ⟨⟨_,hx2⟩,rfl⟩;have X2:=zh hx2;clear hx2;have l0:=(zu X2).cell k4;have l1:=(zu X2).cell j1;have l2:=(zu X2).cell i0;have l3:=(zu X2).cell i1;have l4:=(zu X2).cell i2;have hs2:=(zu X2).size;have m0:=fun ob=>(Ext.alloc w2 ob).cell l0;have m1:=fun ob=>(Ext.alloc w2 ob).cell l1;have m2:=fun ob=>(Ext.alloc w2 ob).cell l2;have m3:=fun ob=>(Ext.alloc w2 ob).cell l3;have m4:=fun ob=>(Ext.alloc w2 ob).cell l4
 go_wp2_with fail
 refine wp_oneS ?_;apply Exists.intro;apply Exists.intro;apply And.intro
 ·go_region_law (first | fail)
  all_goals exact nrm_outW ⟨rfl,rfl⟩
 obtain⟨W2,hW2⟩:∃ W2,W2=(w2.alloc (Obj.cells #[.int .i64 9,.int .i64 (k:Int),.int .i64 b] 128)).drew:=⟨_,rfl⟩;have Y2:Ext w W2:=by rw[hW2];exact(zu X2).trans (Ext.drew (Ext.alloc _ _))
 have s2:W2.heap.size=w2.heap.size+1:=by rw[hW2];simp
 have r2:W2.heap[w2.heap.size]? = some (.cells #[.int .i64 9,.int .i64 (k:Int),.int .i64 b] 128 (0,0)):=by rw[hW2];exact Go.heap_alloc_new w2 _
 rw[← hW2];have x3:=((zu HX).ext Y2).setAt e2 (pc+1);have epc:((pc+1:Nat):Int)=(pc:Int)+1:=by omega
 rw[epc] at x3;have p1:=Y2.cell j1;have pf:W2.frozen? ⟨cb,bs.length * 3+1,none⟩=false:=((((zu HX).ext Y2).cb (by simp)).elim (fun c hc=>by
  have e:=hc.1;rw[e2] at e;injection e with e;injection e with e;subst e;exact hc.2.2.2.1 _))
 obtain⟨W3,hW3⟩:∃ W3,W3=W2.setCell ⟨cb,bs.length * 3+1,none⟩ (.int .i64 ((pc:Int)+1)):=⟨_,rfl⟩;rw[← hW3] at x3;have hcb2:w2.heap.size≠cb:=by omega
 have r3:W3.heap[w2.heap.size]? = some (.cells #[.int .i64 9,.int .i64 (k:Int),.int .i64 b] 128 (0,0)):=by rw[hW3,Below.heap_setCell _ _ _ _ hcb2];exact r2
 have t0:W3.cell? ⟨w2.heap.size,0,none⟩=some (.int .i64 9):=zr r3 0 rfl;have t1:W3.cell? ⟨w2.heap.size,1,none⟩=some (.int .i64 (k:Int)):=zr r3 1 rfl;have t2:W3.cell? ⟨w2.heap.size,2,none⟩=some (.int .i64 b):=zr r3 2 rfl;have q0:W2.cell? ⟨w2.heap.size,0,none⟩=some (.int .i64 9):=zr r2 0 rfl;have F3:SvF5 h.L w W3:=(SvF5.of hL Y2).trans x3.2;have X3:=zh x3.1;have HF3:=zh F3;have HR3:=zh r3;have HW3:=zh hW3;have q1:W2.cell? ⟨w2.heap.size,1,none⟩=some (.int .i64 (k:Int)):=zr r2 1 rfl;have q2:W2.cell? ⟨w2.heap.size,2,none⟩=some (.int .i64 b):=zr r2 2 rfl;obtain⟨g0,g1,g2,g3,g4,gf⟩:=x3.1.cells;simp only[List.length_append,List.length_cons,List.length_nil] at g1;rw[e1,hfl] at g0;rw[e2] at g1
 have f3:W3.cell? ⟨fb,fo+fn * 5+3,none⟩=some (.slice fca f.cs.length fcc):=by rw[World.cell?_of_block (w:=w) (F3.low fb hfb)];exact k3
 obtain⟨cb',e2',_,_,hcf3,hcell3⟩:=x3.1.cb (by simp);rw[e2] at e2';injection e2' with e2';injection e2' with e2';subst e2';obtain⟨n0,n1,n2⟩:=hcell3 bs.length (fn,pc+1,base) (by simp);simp only at n0 n1 n2;clear hcell3 x3 F3 r2 r3 hW2 hW3 l0 l1 l2 l3 l4 m0 m1 m2 m3 m4 v0 v1 vj0 gw c0 c1 c2 c3 c4 zf;have HOp:=zh (open_v fns k kf hkf hfl (RepP.to (fun b hb=>⟨hb,(zu HF3).low b hb⟩) (zu HRp)) (zu X3) h1 (by simp;omega) hkb p m j hps hlc hpb hm hj);clear hps hlc hj hkf
 go_wp2_with (go_at_call 22;rw[← zu HW3];refine Calls.mono (zu HOp) ?_;rintro e w5 ⟨rfl,⟨ca5,cc5,va5,vc5,hs⟩,hf⟩;have HS5:=zh hs;have HF5:=zh hf;clear hs hf)
 go_ret;exact⟨rfl,⟨_,_,_,_,zu HS5⟩,(zu HF3).trans (zu HF5)⟩
theorem st_ret (fns:List KF) (f:KF) {bs:List (Nat × Nat × Nat)} {fn pc base:Nat} (a b:Int) (hf:fns[fn]? = some f) (hi:f.code[pc]? = some ⟨10,a,b⟩) (hfl:h.fl=fns.length) (hp:RepP w (fun b=>b < h.L) h.fa fns) (x:SB h w (bs++[(fn,pc,base)]) ads fu ne evs d) (hbs:bs.length≤1000000) (hpc:pc≤1000000) (us:List Addr) (ad:Addr) (hads:ads=us++[ad]) (hn:us.length≤1000000) (hb:base≤us.length):Calls Tryz.prog 23 #[.pointer (some ⟨h.g,0,none⟩)] w fun e w'=>e = .returned (.int .i64 0)∧(∃ va vc,SB h w' bs (us.take base++[ad]) fu ne evs { d with va:=va,vc:=vc })∧SvF5 h.L w w':=by
 obtain⟨c0,c1,c2,c3,c4,zf⟩:=x.cells;obtain⟨fb,fo,fca,fcc,fka,fkc,e1,hfb,k0,k1,k2,k3,k4,hcs,hcd⟩:=hp.at hf;obtain⟨ib,io,e3,hib,i0,i1,i2⟩:=hcd.at hi;subst e3;obtain⟨cb,e2,hcc,hcB,hcf,hcell⟩:=x.cb (by simp);obtain⟨j0,j1,j2⟩:=hcell bs.length (fn,pc,base) (by simp);simp only[List.length_append,List.length_cons,List.length_nil] at c1 hcc j0 j1 j2;rw[e2] at c1;rw[e1,hfl] at c0;have hfn:(fn:Int) < (fns.length:Int):=by have:=(List.getElem?_eq_some_iff.1 hf).1;omega
 have hpc2:(pc:Int) < (f.code.length:Int):=by have:=(List.getElem?_eq_some_iff.1 hi).1;omega
 have hwb:IntKind.i64.wrap (bs.length:Int)=(bs.length:Int):=by rw[IntKind.wrap_i64];omega
 have hbl:(bs.length:Int) < (bs.length:Int)+1:=by omega
 have hL:=x.ltL;have hg:=x.lt;have hcbw:=(x.oc.lt cb (by rw[e2];rfl)).2;have HX:=zh x;have HCS:=zh hcs;have gw:∀ {a:Addr} {u:Value},w.cell? a=some u→∀ v:RGw w,v.w.cell? a=some u:=fun h v=>v.h.cell h;have v0:=gw c0;have v1:=gw c1;have vj0:=gw j0;have hne:Nonempty (RGw w):=⟨⟨w,Ext.refl _⟩⟩;subst hads;clear x hp hf hi hcd hcell
 go_enter Tryz.func23,Tryz.ntmps23
 go_wp2_with fail
 refine wp_region_rx (W:=w) (by kernel_rfl) (by kernel_rfl) (Ext.refl _) ?_
 repeat (go_big_quiet_step (fail))
 refine wpQuiet_nil ?_;rintro w1 ⟨⟨_,hx1⟩,rfl⟩;have X1:=zh hx1;clear hx1
 go_wp2_with fail
 refine wp_region_rx (W:=w) (by kernel_rfl) (by kernel_rfl) (zu X1) ?_
 repeat (go_big_quiet_step (fail))
 refine wpQuiet_nil ?_;rintro w2 ⟨⟨_,hx2⟩,rfl⟩;have X2:=zh hx2;clear hx2;have l0:=(zu X2).cell k4;have l1:=(zu X2).cell j1;have l2:=(zu X2).cell i0;have l3:=(zu X2).cell i1;have l4:=(zu X2).cell i2;have hs2:=(zu X2).size;have m0:=fun ob=>(Ext.alloc w2 ob).cell l0;have m1:=fun ob=>(Ext.alloc w2 ob).cell l1;have m2:=fun ob=>(Ext.alloc w2 ob).cell l2;have m3:=fun ob=>(Ext.alloc w2 ob).cell l3;have m4:=fun ob=>(Ext.alloc w2 ob).cell l4
 go_wp2_with fail
 refine wp_oneS ?_;apply Exists.intro;apply Exists.intro;apply And.intro
 ·go_region_law (first | fail)
  all_goals exact nrm_outW ⟨rfl,rfl⟩
 obtain⟨W2,hW2⟩:∃ W2,W2=(w2.alloc (Obj.cells #[.int .i64 10,.int .i64 a,.int .i64 b] 128)).drew:=⟨_,rfl⟩;have Y2:Ext w W2:=by rw[hW2];exact(zu X2).trans (Ext.drew (Ext.alloc _ _))
 have s2:W2.heap.size=w2.heap.size+1:=by rw[hW2];simp
 have r2:W2.heap[w2.heap.size]? = some (.cells #[.int .i64 10,.int .i64 a,.int .i64 b] 128 (0,0)):=by rw[hW2];exact Go.heap_alloc_new w2 _
 rw[← hW2];have x3:=((zu HX).ext Y2).setAt e2 (pc+1);have epc:((pc+1:Nat):Int)=(pc:Int)+1:=by omega
 rw[epc] at x3;have p1:=Y2.cell j1;have pf:W2.frozen? ⟨cb,bs.length * 3+1,none⟩=false:=((((zu HX).ext Y2).cb (by simp)).elim (fun c hc=>by
  have e:=hc.1;rw[e2] at e;injection e with e;injection e with e;subst e;exact hc.2.2.2.1 _))
 obtain⟨W3,hW3⟩:∃ W3,W3=W2.setCell ⟨cb,bs.length * 3+1,none⟩ (.int .i64 ((pc:Int)+1)):=⟨_,rfl⟩;rw[← hW3] at x3;have hcb2:w2.heap.size≠cb:=by omega
 have r3:W3.heap[w2.heap.size]? = some (.cells #[.int .i64 10,.int .i64 a,.int .i64 b] 128 (0,0)):=by rw[hW3,Below.heap_setCell _ _ _ _ hcb2];exact r2
 have t0:W3.cell? ⟨w2.heap.size,0,none⟩=some (.int .i64 10):=zr r3 0 rfl;have t1:W3.cell? ⟨w2.heap.size,1,none⟩=some (.int .i64 a):=zr r3 1 rfl;have t2:W3.cell? ⟨w2.heap.size,2,none⟩=some (.int .i64 b):=zr r3 2 rfl;have q0:W2.cell? ⟨w2.heap.size,0,none⟩=some (.int .i64 10):=zr r2 0 rfl;have F3:SvF5 h.L w W3:=(SvF5.of hL Y2).trans x3.2;have X3:=zh x3.1;have HF3:=zh F3;have HR3:=zh r3;have HW3:=zh hW3;have q1:W2.cell? ⟨w2.heap.size,1,none⟩=some (.int .i64 a):=zr r2 1 rfl;have q2:W2.cell? ⟨w2.heap.size,2,none⟩=some (.int .i64 b):=zr r2 2 rfl;obtain⟨g0,g1,g2,g3,g4,gf⟩:=x3.1.cells;simp only[List.length_append,List.length_cons,List.length_nil] at g1;rw[e1,hfl] at g0;rw[e2] at g1
 have f3:W3.cell? ⟨fb,fo+fn * 5+3,none⟩=some (.slice fca f.cs.length fcc):=by rw[World.cell?_of_block (w:=w) (F3.low fb hfb)];exact k3
 obtain⟨cb',e2',_,_,hcf3,hcell3⟩:=x3.1.cb (by simp);rw[e2] at e2';injection e2' with e2';injection e2' with e2';subst e2';obtain⟨n0,n1,n2⟩:=hcell3 bs.length (fn,pc+1,base) (by simp);simp only at n0 n1 n2;clear hcell3 x3 F3 r2 r3 hW2 hW3 l0 l1 l2 l3 l4 m0 m1 m2 m3 m4 v0 v1 vj0 gw c0 c1 c2 c3 c4 zf;have HPo:=zh (shut_v (zu X3) hn hbs hb)
 go_wp2_with (go_at_call 55;rw[← zu HW3];refine Calls.mono (zu HPo) ?_;rintro e w5 ⟨rfl,⟨va,vc,hs⟩,hf⟩;have HS5:=zh hs;have HF5:=zh hf;clear hs hf)
 go_ret;exact⟨rfl,⟨_,_,zu HS5⟩,(zu HF3).trans (zu HF5)⟩
end V
namespace V
variable {w w' w2:World} {h:SHd} {cs:List (Nat × Nat × Nat)} {ads:List Addr} {fu:Int} {ne:Nat} {evs:List Value} {d:SAd}
theorem st_bin (fns:List KF) (f:KF) {bs:List (Nat × Nat × Nat)} {fn pc base:Nat} (a b:Int) (hf:fns[fn]? = some f) (hi:f.code[pc]? = some ⟨5,a,b⟩) (hfl:h.fl=fns.length) (hp:RepP w (fun b=>b < h.L) h.fa fns) (x:SB h w (bs++[(fn,pc,base)]) ads fu ne evs d) (hbs:bs.length≤1000000) (hpc:pc≤1000000) (us:List Addr) (a1 a2:Addr) (hads:ads=us++[a1]++[a2]) (hn:us.length≤999990) (p q v:PV) (hbn:sBin a p q=some v) (hP:PtV h.L w a1 p) (hQ:PtV h.L w a2 q):Calls Tryz.prog 23 #[.pointer (some ⟨h.g,0,none⟩)] w fun e w'=>e = .returned (.int .i64 0)∧(∃ ad va vc,SB h w' (bs++[(fn,pc+1,base)]) (us++[ad]) fu ne evs { d with va:=va,vc:=vc }∧PtV h.L w' ad v)∧SvF5 h.L w w':=by
 obtain⟨c0,c1,c2,c3,c4,zf⟩:=x.cells;obtain⟨fb,fo,fca,fcc,fka,fkc,e1,hfb,k0,k1,k2,k3,k4,hcs,hcd⟩:=hp.at hf;obtain⟨ib,io,e3,hib,i0,i1,i2⟩:=hcd.at hi;subst e3;obtain⟨cb,e2,hcc,hcB,hcf,hcell⟩:=x.cb (by simp);obtain⟨j0,j1,j2⟩:=hcell bs.length (fn,pc,base) (by simp);simp only[List.length_append,List.length_cons,List.length_nil] at c1 hcc j0 j1 j2;rw[e2] at c1;rw[e1,hfl] at c0;have hfn:(fn:Int) < (fns.length:Int):=by have:=(List.getElem?_eq_some_iff.1 hf).1;omega
 have hpc2:(pc:Int) < (f.code.length:Int):=by have:=(List.getElem?_eq_some_iff.1 hi).1;omega
 have hwb:IntKind.i64.wrap (bs.length:Int)=(bs.length:Int):=by rw[IntKind.wrap_i64];omega
 have hbl:(bs.length:Int) < (bs.length:Int)+1:=by omega
 have hL:=x.ltL;have hg:=x.lt;have hcbw:=(x.oc.lt cb (by rw[e2];rfl)).2;have HX:=zh x;have HCS:=zh hcs;have gw:∀ {a:Addr} {u:Value},w.cell? a=some u→∀ v:RGw w,v.w.cell? a=some u:=fun h v=>v.h.cell h;have v0:=gw c0;have v1:=gw c1;have vj0:=gw j0;have hne:Nonempty (RGw w):=⟨⟨w,Ext.refl _⟩⟩;subst hads;clear x hp hf hi hcd hcell
 go_enter Tryz.func23,Tryz.ntmps23
 go_wp2_with fail
 refine wp_region_rx (W:=w) (by kernel_rfl) (by kernel_rfl) (Ext.refl _) ?_
 repeat (go_big_quiet_step (fail))
 refine wpQuiet_nil ?_;rintro w1 ⟨⟨_,hx1⟩,rfl⟩;have X1:=zh hx1;clear hx1
 go_wp2_with fail
 refine wp_region_rx (W:=w) (by kernel_rfl) (by kernel_rfl) (zu X1) ?_
 repeat (go_big_quiet_step (fail))
 refine wpQuiet_nil ?_;rintro w2 ⟨⟨_,hx2⟩,rfl⟩;have X2:=zh hx2;clear hx2;have l0:=(zu X2).cell k4;have l1:=(zu X2).cell j1;have l2:=(zu X2).cell i0;have l3:=(zu X2).cell i1;have l4:=(zu X2).cell i2;have hs2:=(zu X2).size;have m0:=fun ob=>(Ext.alloc w2 ob).cell l0;have m1:=fun ob=>(Ext.alloc w2 ob).cell l1;have m2:=fun ob=>(Ext.alloc w2 ob).cell l2;have m3:=fun ob=>(Ext.alloc w2 ob).cell l3;have m4:=fun ob=>(Ext.alloc w2 ob).cell l4
 go_wp2_with fail
 refine wp_oneS ?_;apply Exists.intro;apply Exists.intro;apply And.intro
 ·go_region_law (first | fail)
  all_goals exact nrm_outW ⟨rfl,rfl⟩
 obtain⟨W2,hW2⟩:∃ W2,W2=(w2.alloc (Obj.cells #[.int .i64 5,.int .i64 a,.int .i64 b] 128)).drew:=⟨_,rfl⟩;have Y2:Ext w W2:=by rw[hW2];exact(zu X2).trans (Ext.drew (Ext.alloc _ _))
 have s2:W2.heap.size=w2.heap.size+1:=by rw[hW2];simp
 have r2:W2.heap[w2.heap.size]? = some (.cells #[.int .i64 5,.int .i64 a,.int .i64 b] 128 (0,0)):=by rw[hW2];exact Go.heap_alloc_new w2 _
 rw[← hW2];have x3:=((zu HX).ext Y2).setAt e2 (pc+1);have epc:((pc+1:Nat):Int)=(pc:Int)+1:=by omega
 rw[epc] at x3;have p1:=Y2.cell j1;have pf:W2.frozen? ⟨cb,bs.length * 3+1,none⟩=false:=((((zu HX).ext Y2).cb (by simp)).elim (fun c hc=>by
  have e:=hc.1;rw[e2] at e;injection e with e;injection e with e;subst e;exact hc.2.2.2.1 _))
 obtain⟨W3,hW3⟩:∃ W3,W3=W2.setCell ⟨cb,bs.length * 3+1,none⟩ (.int .i64 ((pc:Int)+1)):=⟨_,rfl⟩;rw[← hW3] at x3;have hcb2:w2.heap.size≠cb:=by omega
 have r3:W3.heap[w2.heap.size]? = some (.cells #[.int .i64 5,.int .i64 a,.int .i64 b] 128 (0,0)):=by rw[hW3,Below.heap_setCell _ _ _ _ hcb2];exact r2
 have t0:W3.cell? ⟨w2.heap.size,0,none⟩=some (.int .i64 5):=zr r3 0 rfl;have t1:W3.cell? ⟨w2.heap.size,1,none⟩=some (.int .i64 a):=zr r3 1 rfl;have t2:W3.cell? ⟨w2.heap.size,2,none⟩=some (.int .i64 b):=zr r3 2 rfl;have q0:W2.cell? ⟨w2.heap.size,0,none⟩=some (.int .i64 5):=zr r2 0 rfl;have F3:SvF5 h.L w W3:=(SvF5.of hL Y2).trans x3.2;have X3:=zh x3.1;have HF3:=zh F3;have HR3:=zh r3;have HW3:=zh hW3;have q1:W2.cell? ⟨w2.heap.size,1,none⟩=some (.int .i64 a):=zr r2 1 rfl;have q2:W2.cell? ⟨w2.heap.size,2,none⟩=some (.int .i64 b):=zr r2 2 rfl;obtain⟨g0,g1,g2,g3,g4,gf⟩:=x3.1.cells;simp only[List.length_append,List.length_cons,List.length_nil] at g1;rw[e1,hfl] at g0;rw[e2] at g1
 have f3:W3.cell? ⟨fb,fo+fn * 5+3,none⟩=some (.slice fca f.cs.length fcc):=by rw[World.cell?_of_block (w:=w) (F3.low fb hfb)];exact k3
 obtain⟨cb',e2',_,_,hcf3,hcell3⟩:=x3.1.cb (by simp);rw[e2] at e2';injection e2' with e2';injection e2' with e2';subst e2';obtain⟨n0,n1,n2⟩:=hcell3 bs.length (fn,pc+1,base) (by simp);simp only at n0 n1 n2;clear hcell3 x3 F3 r2 r3 hW2 hW3 l0 l1 l2 l3 l4 m0 m1 m2 m3 m4 v0 v1 vj0 gw c0 c1 c2 c3 c4 zf;have HWk:=zh (work_v (zu X3) hn a b p q v hbn (hP.on (zu HF3)) (hQ.on (zu HF3)));clear hP hQ hbn
 go_wp2_with (go_at_call 58;rw[← zu HW3];refine Calls.mono (zu HWk) ?_;rintro e w5 ⟨rfl,⟨ad,va,vc,hs,hp5⟩,hf⟩;have HS5:=zh hs;have HP5:=zh hp5;have HF5:=zh hf;clear hs hf hp5)
 go_ret;exact⟨rfl,⟨_,_,_,zu HS5,zu HP5⟩,(zu HF3).trans (zu HF5)⟩
theorem st_brz1 (fns:List KF) (f:KF) {bs:List (Nat × Nat × Nat)} {fn pc base:Nat} (a b:Int) (hf:fns[fn]? = some f) (hi:f.code[pc]? = some ⟨8,a,b⟩) (hfl:h.fl=fns.length) (hp:RepP w (fun b=>b < h.L) h.fa fns) (x:SB h w (bs++[(fn,pc,base)]) ads fu ne evs d) (hbs:bs.length≤1000000) (hpc:pc≤1000000) (q:Nat) (hq:a=(q:Int)) (us:List Addr) (ad:Addr) (hads:ads=us++[ad]) (hn:us.length≤1000000) (v:PV) (hP:PtV h.L w ad v) (htv:truev (tk v)=true):Calls Tryz.prog 23 #[.pointer (some ⟨h.g,0,none⟩)] w fun e w'=>e = .returned (.int .i64 0)∧SB h w' (bs++[(fn,pc+1,base)]) us fu ne evs d∧SvF5 h.L w w':=by
 obtain⟨c0,c1,c2,c3,c4,zf⟩:=x.cells;obtain⟨fb,fo,fca,fcc,fka,fkc,e1,hfb,k0,k1,k2,k3,k4,hcs,hcd⟩:=hp.at hf;obtain⟨ib,io,e3,hib,i0,i1,i2⟩:=hcd.at hi;subst e3;obtain⟨cb,e2,hcc,hcB,hcf,hcell⟩:=x.cb (by simp);obtain⟨j0,j1,j2⟩:=hcell bs.length (fn,pc,base) (by simp);simp only[List.length_append,List.length_cons,List.length_nil] at c1 hcc j0 j1 j2;rw[e2] at c1;rw[e1,hfl] at c0;have hfn:(fn:Int) < (fns.length:Int):=by have:=(List.getElem?_eq_some_iff.1 hf).1;omega
 have hpc2:(pc:Int) < (f.code.length:Int):=by have:=(List.getElem?_eq_some_iff.1 hi).1;omega
 have hwb:IntKind.i64.wrap (bs.length:Int)=(bs.length:Int):=by rw[IntKind.wrap_i64];omega
 have hbl:(bs.length:Int) < (bs.length:Int)+1:=by omega
 have hL:=x.ltL;have hg:=x.lt;have hcbw:=(x.oc.lt cb (by rw[e2];rfl)).2;have HX:=zh x;have HCS:=zh hcs;have gw:∀ {a:Addr} {u:Value},w.cell? a=some u→∀ v:RGw w,v.w.cell? a=some u:=fun h v=>v.h.cell h;have v0:=gw c0;have v1:=gw c1;have vj0:=gw j0;have hne:Nonempty (RGw w):=⟨⟨w,Ext.refl _⟩⟩;subst hads hq;obtain⟨vb1,vo1,sa1,sc1,e7,E7⟩:=hP;subst e7;have HE7:=zh E7;clear E7;clear x hp hf hi hcd hcell
 go_enter Tryz.func23,Tryz.ntmps23
 go_wp2_with fail
 refine wp_region_rx (W:=w) (by kernel_rfl) (by kernel_rfl) (Ext.refl _) ?_
 repeat (go_big_quiet_step (fail))
 refine wpQuiet_nil ?_;rintro w1 ⟨⟨_,hx1⟩,rfl⟩;have X1:=zh hx1;clear hx1
 go_wp2_with fail
 refine wp_region_rx (W:=w) (by kernel_rfl) (by kernel_rfl) (zu X1) ?_
 repeat (go_big_quiet_step (fail))
 refine wpQuiet_nil ?_;rintro w2 ⟨⟨_,hx2⟩,rfl⟩;have X2:=zh hx2;clear hx2;have l0:=(zu X2).cell k4;have l1:=(zu X2).cell j1;have l2:=(zu X2).cell i0;have l3:=(zu X2).cell i1;have l4:=(zu X2).cell i2;have hs2:=(zu X2).size;have m0:=fun ob=>(Ext.alloc w2 ob).cell l0;have m1:=fun ob=>(Ext.alloc w2 ob).cell l1;have m2:=fun ob=>(Ext.alloc w2 ob).cell l2;have m3:=fun ob=>(Ext.alloc w2 ob).cell l3;have m4:=fun ob=>(Ext.alloc w2 ob).cell l4
 go_wp2_with fail
 refine wp_oneS ?_;apply Exists.intro;apply Exists.intro;apply And.intro
 ·go_region_law (first | fail)
  all_goals exact nrm_outW ⟨rfl,rfl⟩
 obtain⟨W2,hW2⟩:∃ W2,W2=(w2.alloc (Obj.cells #[.int .i64 8,.int .i64 (q:Int),.int .i64 b] 128)).drew:=⟨_,rfl⟩;have Y2:Ext w W2:=by rw[hW2];exact(zu X2).trans (Ext.drew (Ext.alloc _ _))
 have s2:W2.heap.size=w2.heap.size+1:=by rw[hW2];simp
 have r2:W2.heap[w2.heap.size]? = some (.cells #[.int .i64 8,.int .i64 (q:Int),.int .i64 b] 128 (0,0)):=by rw[hW2];exact Go.heap_alloc_new w2 _
 rw[← hW2];have x3:=((zu HX).ext Y2).setAt e2 (pc+1);have epc:((pc+1:Nat):Int)=(pc:Int)+1:=by omega
 rw[epc] at x3;have p1:=Y2.cell j1;have pf:W2.frozen? ⟨cb,bs.length * 3+1,none⟩=false:=((((zu HX).ext Y2).cb (by simp)).elim (fun c hc=>by
  have e:=hc.1;rw[e2] at e;injection e with e;injection e with e;subst e;exact hc.2.2.2.1 _))
 obtain⟨W3,hW3⟩:∃ W3,W3=W2.setCell ⟨cb,bs.length * 3+1,none⟩ (.int .i64 ((pc:Int)+1)):=⟨_,rfl⟩;rw[← hW3] at x3;have hcb2:w2.heap.size≠cb:=by omega
 have r3:W3.heap[w2.heap.size]? = some (.cells #[.int .i64 8,.int .i64 (q:Int),.int .i64 b] 128 (0,0)):=by rw[hW3,Below.heap_setCell _ _ _ _ hcb2];exact r2
 have t0:W3.cell? ⟨w2.heap.size,0,none⟩=some (.int .i64 8):=zr r3 0 rfl;have t1:W3.cell? ⟨w2.heap.size,1,none⟩=some (.int .i64 (q:Int)):=zr r3 1 rfl;have t2:W3.cell? ⟨w2.heap.size,2,none⟩=some (.int .i64 b):=zr r3 2 rfl;have q0:W2.cell? ⟨w2.heap.size,0,none⟩=some (.int .i64 8):=zr r2 0 rfl;have F3:SvF5 h.L w W3:=(SvF5.of hL Y2).trans x3.2;have X3:=zh x3.1;have HF3:=zh F3;have HR3:=zh r3;have HW3:=zh hW3;have q1:W2.cell? ⟨w2.heap.size,1,none⟩=some (.int .i64 (q:Int)):=zr r2 1 rfl;have q2:W2.cell? ⟨w2.heap.size,2,none⟩=some (.int .i64 b):=zr r2 2 rfl;obtain⟨g0,g1,g2,g3,g4,gf⟩:=x3.1.cells;simp only[List.length_append,List.length_cons,List.length_nil] at g1;rw[e1,hfl] at g0;rw[e2] at g1
 have f3:W3.cell? ⟨fb,fo+fn * 5+3,none⟩=some (.slice fca f.cs.length fcc):=by rw[World.cell?_of_block (w:=w) (F3.low fb hfb)];exact k3
 obtain⟨cb',e2',_,_,hcf3,hcell3⟩:=x3.1.cb (by simp);rw[e2] at e2';injection e2' with e2';injection e2' with e2';subst e2';obtain⟨n0,n1,n2⟩:=hcell3 bs.length (fn,pc+1,base) (by simp);simp only at n0 n1 n2;clear hcell3 x3 F3 r2 r3 hW2 hW3 l0 l1 l2 l3 l4 m0 m1 m2 m3 m4 v0 v1 vj0 gw c0 c1 c2 c3 c4 zf;have HPo:=zh (pop_v (zu X3) hn);have HTv:=zh htv;clear htv
 go_wp2_with (first
  | (go_at_call 26;rw[← zu HW3];refine Calls.mono (zu HPo) ?_;rintro e w5 ⟨rfl,hs,hf⟩;have E5:=(zu HE7).to ((zu HF3).trans hf).nt;have z0:=E5.c0;have z1:=E5.c1;have z2:=E5.c2;have z3:=E5.c3;have z4:=E5.c4;have ht5:=truth_any v _ w5 (Rep.to (w':=w5) (F:=NT h.L w5) (F':=In w5) (fun b hb=>⟨hb.1,rfl⟩) _ _ E5.rep);rw[zu HTv] at ht5;have HT5:=zh ht5;have HS5:=zh hs;have HF5:=zh hf;have y1:w5.cell? ⟨w2.heap.size,1,none⟩=some (.int .i64 (q:Int)):=zr (hf.typ _ _ _ _ (zu HR3) (by unfold T5;decide)) 1 rfl;obtain⟨cb5,e5c,_,_,cf5,hc5⟩:=hs.cb (by simp);rw[e2] at e5c;injection e5c with e5c;injection e5c with e5c;subst e5c;have n15:=(hc5 bs.length (fn,pc+1,base) (by simp)).2.1;clear hs hf ht5 E5 hc5)
  | (go_at_call 54;refine Calls.mono (zu HT5) ?_;rintro e w6 ⟨rfl,hx6⟩;have HS6:=zh ((zu HS5).ext hx6);have HF6:=zh ((zu HF5).trans (SvF5.of (zu HS5).ltL hx6));have y16:=hx6.cell y1;have n16:=hx6.cell n15;have cf6:w6.frozen? ⟨cb,bs.length * 3+1,none⟩=false:=(by have hc:=(zu HS6).cb (by simp);obtain⟨c6,e6,_,_,f6,_⟩:=hc;rw[e2] at e6;injection e6 with e6;injection e6 with e6;subst e6;exact f6 _);clear hx6 HT5))
 go_ret;exact⟨rfl,zu HS6,(zu HF3).trans (zu HF6)⟩
theorem st_brz0 (fns:List KF) (f:KF) {bs:List (Nat × Nat × Nat)} {fn pc base:Nat} (a b:Int) (hf:fns[fn]? = some f) (hi:f.code[pc]? = some ⟨8,a,b⟩) (hfl:h.fl=fns.length) (hp:RepP w (fun b=>b < h.L) h.fa fns) (x:SB h w (bs++[(fn,pc,base)]) ads fu ne evs d) (hbs:bs.length≤1000000) (hpc:pc≤1000000) (q:Nat) (hq:a=(q:Int)) (us:List Addr) (ad:Addr) (hads:ads=us++[ad]) (hn:us.length≤1000000) (v:PV) (hP:PtV h.L w ad v) (htv:truev (tk v)=false):Calls Tryz.prog 23 #[.pointer (some ⟨h.g,0,none⟩)] w fun e w'=>e = .returned (.int .i64 0)∧SB h w' (bs++[(fn,q,base)]) us fu ne evs d∧SvF5 h.L w w':=by
 obtain⟨c0,c1,c2,c3,c4,zf⟩:=x.cells;obtain⟨fb,fo,fca,fcc,fka,fkc,e1,hfb,k0,k1,k2,k3,k4,hcs,hcd⟩:=hp.at hf;obtain⟨ib,io,e3,hib,i0,i1,i2⟩:=hcd.at hi;subst e3;obtain⟨cb,e2,hcc,hcB,hcf,hcell⟩:=x.cb (by simp);obtain⟨j0,j1,j2⟩:=hcell bs.length (fn,pc,base) (by simp);simp only[List.length_append,List.length_cons,List.length_nil] at c1 hcc j0 j1 j2;rw[e2] at c1;rw[e1,hfl] at c0;have hfn:(fn:Int) < (fns.length:Int):=by have:=(List.getElem?_eq_some_iff.1 hf).1;omega
 have hpc2:(pc:Int) < (f.code.length:Int):=by have:=(List.getElem?_eq_some_iff.1 hi).1;omega
 have hwb:IntKind.i64.wrap (bs.length:Int)=(bs.length:Int):=by rw[IntKind.wrap_i64];omega
 have hbl:(bs.length:Int) < (bs.length:Int)+1:=by omega
 have hL:=x.ltL;have hg:=x.lt;have hcbw:=(x.oc.lt cb (by rw[e2];rfl)).2;have HX:=zh x;have HCS:=zh hcs;have gw:∀ {a:Addr} {u:Value},w.cell? a=some u→∀ v:RGw w,v.w.cell? a=some u:=fun h v=>v.h.cell h;have v0:=gw c0;have v1:=gw c1;have vj0:=gw j0;have hne:Nonempty (RGw w):=⟨⟨w,Ext.refl _⟩⟩;subst hads hq;obtain⟨vb1,vo1,sa1,sc1,e7,E7⟩:=hP;subst e7;have HE7:=zh E7;clear E7;clear x hp hf hi hcd hcell
 go_enter Tryz.func23,Tryz.ntmps23
 go_wp2_with fail
 refine wp_region_rx (W:=w) (by kernel_rfl) (by kernel_rfl) (Ext.refl _) ?_
 repeat (go_big_quiet_step (fail))
 refine wpQuiet_nil ?_;rintro w1 ⟨⟨_,hx1⟩,rfl⟩;have X1:=zh hx1;clear hx1
 go_wp2_with fail
 refine wp_region_rx (W:=w) (by kernel_rfl) (by kernel_rfl) (zu X1) ?_
 repeat (go_big_quiet_step (fail))
 refine wpQuiet_nil ?_;rintro w2 ⟨⟨_,hx2⟩,rfl⟩;have X2:=zh hx2;clear hx2;have l0:=(zu X2).cell k4;have l1:=(zu X2).cell j1;have l2:=(zu X2).cell i0;have l3:=(zu X2).cell i1;have l4:=(zu X2).cell i2;have hs2:=(zu X2).size;have m0:=fun ob=>(Ext.alloc w2 ob).cell l0;have m1:=fun ob=>(Ext.alloc w2 ob).cell l1;have m2:=fun ob=>(Ext.alloc w2 ob).cell l2;have m3:=fun ob=>(Ext.alloc w2 ob).cell l3;have m4:=fun ob=>(Ext.alloc w2 ob).cell l4
 go_wp2_with fail
 refine wp_oneS ?_;apply Exists.intro;apply Exists.intro;apply And.intro
 ·go_region_law (first | fail)
  all_goals exact nrm_outW ⟨rfl,rfl⟩
 obtain⟨W2,hW2⟩:∃ W2,W2=(w2.alloc (Obj.cells #[.int .i64 8,.int .i64 (q:Int),.int .i64 b] 128)).drew:=⟨_,rfl⟩;have Y2:Ext w W2:=by rw[hW2];exact(zu X2).trans (Ext.drew (Ext.alloc _ _))
 have s2:W2.heap.size=w2.heap.size+1:=by rw[hW2];simp
 have r2:W2.heap[w2.heap.size]? = some (.cells #[.int .i64 8,.int .i64 (q:Int),.int .i64 b] 128 (0,0)):=by rw[hW2];exact Go.heap_alloc_new w2 _
 rw[← hW2];have x3:=((zu HX).ext Y2).setAt e2 (pc+1);have epc:((pc+1:Nat):Int)=(pc:Int)+1:=by omega
 rw[epc] at x3;have p1:=Y2.cell j1;have pf:W2.frozen? ⟨cb,bs.length * 3+1,none⟩=false:=((((zu HX).ext Y2).cb (by simp)).elim (fun c hc=>by
  have e:=hc.1;rw[e2] at e;injection e with e;injection e with e;subst e;exact hc.2.2.2.1 _))
 obtain⟨W3,hW3⟩:∃ W3,W3=W2.setCell ⟨cb,bs.length * 3+1,none⟩ (.int .i64 ((pc:Int)+1)):=⟨_,rfl⟩;rw[← hW3] at x3;have hcb2:w2.heap.size≠cb:=by omega
 have r3:W3.heap[w2.heap.size]? = some (.cells #[.int .i64 8,.int .i64 (q:Int),.int .i64 b] 128 (0,0)):=by rw[hW3,Below.heap_setCell _ _ _ _ hcb2];exact r2
 have t0:W3.cell? ⟨w2.heap.size,0,none⟩=some (.int .i64 8):=zr r3 0 rfl;have t1:W3.cell? ⟨w2.heap.size,1,none⟩=some (.int .i64 (q:Int)):=zr r3 1 rfl;have t2:W3.cell? ⟨w2.heap.size,2,none⟩=some (.int .i64 b):=zr r3 2 rfl;have q0:W2.cell? ⟨w2.heap.size,0,none⟩=some (.int .i64 8):=zr r2 0 rfl;have F3:SvF5 h.L w W3:=(SvF5.of hL Y2).trans x3.2;have X3:=zh x3.1;have HF3:=zh F3;have HR3:=zh r3;have HW3:=zh hW3;have q1:W2.cell? ⟨w2.heap.size,1,none⟩=some (.int .i64 (q:Int)):=zr r2 1 rfl;have q2:W2.cell? ⟨w2.heap.size,2,none⟩=some (.int .i64 b):=zr r2 2 rfl;obtain⟨g0,g1,g2,g3,g4,gf⟩:=x3.1.cells;simp only[List.length_append,List.length_cons,List.length_nil] at g1;rw[e1,hfl] at g0;rw[e2] at g1
 have f3:W3.cell? ⟨fb,fo+fn * 5+3,none⟩=some (.slice fca f.cs.length fcc):=by rw[World.cell?_of_block (w:=w) (F3.low fb hfb)];exact k3
 obtain⟨cb',e2',_,_,hcf3,hcell3⟩:=x3.1.cb (by simp);rw[e2] at e2';injection e2' with e2';injection e2' with e2';subst e2';obtain⟨n0,n1,n2⟩:=hcell3 bs.length (fn,pc+1,base) (by simp);simp only at n0 n1 n2;clear hcell3 x3 F3 r2 r3 hW2 hW3 l0 l1 l2 l3 l4 m0 m1 m2 m3 m4 v0 v1 vj0 gw c0 c1 c2 c3 c4 zf;have HPo:=zh (pop_v (zu X3) hn);have HTv:=zh htv;clear htv
 go_wp2_with (first
  | (go_at_call 26;rw[← zu HW3];refine Calls.mono (zu HPo) ?_;rintro e w5 ⟨rfl,hs,hf⟩;have E5:=(zu HE7).to ((zu HF3).trans hf).nt;have z0:=E5.c0;have z1:=E5.c1;have z2:=E5.c2;have z3:=E5.c3;have z4:=E5.c4;have ht5:=truth_any v _ w5 (Rep.to (w':=w5) (F:=NT h.L w5) (F':=In w5) (fun b hb=>⟨hb.1,rfl⟩) _ _ E5.rep);rw[zu HTv] at ht5;have HT5:=zh ht5;have HS5:=zh hs;have HF5:=zh hf;have y1:w5.cell? ⟨w2.heap.size,1,none⟩=some (.int .i64 (q:Int)):=zr (hf.typ _ _ _ _ (zu HR3) (by unfold T5;decide)) 1 rfl;obtain⟨cb5,e5c,_,_,cf5,hc5⟩:=hs.cb (by simp);rw[e2] at e5c;injection e5c with e5c;injection e5c with e5c;subst e5c;have n15:=(hc5 bs.length (fn,pc+1,base) (by simp)).2.1;clear hs hf ht5 E5 hc5)
  | (go_at_call 54;refine Calls.mono (zu HT5) ?_;rintro e w6 ⟨rfl,hx6⟩;have HS6:=zh ((zu HS5).ext hx6);have HF6:=zh ((zu HF5).trans (SvF5.of (zu HS5).ltL hx6));have y16:=hx6.cell y1;have n16:=hx6.cell n15;have cf6:w6.frozen? ⟨cb,bs.length * 3+1,none⟩=false:=(by have hc:=(zu HS6).cb (by simp);obtain⟨c6,e6,_,_,f6,_⟩:=hc;rw[e2] at e6;injection e6 with e6;injection e6 with e6;subst e6;exact f6 _);clear hx6 HT5))
 go_ret;have hq6:=(zu HS6).setAt e2 q;exact⟨rfl,hq6.1,((zu HF3).trans (zu HF6)).trans hq6.2⟩
end V
namespace V
variable {w w' w2:World} {h:SHd} {cs:List (Nat × Nat × Nat)} {ads:List Addr} {fu:Int} {ne:Nat} {evs:List Value} {d:SAd}
theorem st_store (fns:List KF) (f:KF) {bs:List (Nat × Nat × Nat)} {fn pc base:Nat} (a b:Int) (hf:fns[fn]? = some f) (hi:f.code[pc]? = some ⟨3,a,b⟩) (hfl:h.fl=fns.length) (hp:RepP w (fun b=>b < h.L) h.fa fns) (x:SB h w (bs++[(fn,pc,base)]) ads fu ne evs d) (hbs:bs.length≤1000000) (hpc:pc≤1000000) (q:Nat) (hq:a=(q:Int)) (us:List Addr) (ad:Addr) (hads:ads=us++[ad]) (hn:us.length≤1000000) (hbq:base+q < us.length):Calls Tryz.prog 23 #[.pointer (some ⟨h.g,0,none⟩)] w fun e w'=>e = .returned (.int .i64 0)∧SB h w' (bs++[(fn,pc+1,base)]) (us.set (base+q) ad) fu ne evs d∧SvF5 h.L w w':=by
 obtain⟨c0,c1,c2,c3,c4,zf⟩:=x.cells;obtain⟨fb,fo,fca,fcc,fka,fkc,e1,hfb,k0,k1,k2,k3,k4,hcs,hcd⟩:=hp.at hf;obtain⟨ib,io,e3,hib,i0,i1,i2⟩:=hcd.at hi;subst e3;obtain⟨cb,e2,hcc,hcB,hcf,hcell⟩:=x.cb (by simp);obtain⟨j0,j1,j2⟩:=hcell bs.length (fn,pc,base) (by simp);simp only[List.length_append,List.length_cons,List.length_nil] at c1 hcc j0 j1 j2;rw[e2] at c1;rw[e1,hfl] at c0;have hfn:(fn:Int) < (fns.length:Int):=by have:=(List.getElem?_eq_some_iff.1 hf).1;omega
 have hpc2:(pc:Int) < (f.code.length:Int):=by have:=(List.getElem?_eq_some_iff.1 hi).1;omega
 have hwb:IntKind.i64.wrap (bs.length:Int)=(bs.length:Int):=by rw[IntKind.wrap_i64];omega
 have hbl:(bs.length:Int) < (bs.length:Int)+1:=by omega
 have hL:=x.ltL;have hg:=x.lt;have hcbw:=(x.oc.lt cb (by rw[e2];rfl)).2;have HX:=zh x;have HCS:=zh hcs;have gw:∀ {a:Addr} {u:Value},w.cell? a=some u→∀ v:RGw w,v.w.cell? a=some u:=fun h v=>v.h.cell h;have v0:=gw c0;have v1:=gw c1;have vj0:=gw j0;have hne:Nonempty (RGw w):=⟨⟨w,Ext.refl _⟩⟩;subst hads hq;clear x hp hf hi hcd hcell
 go_enter Tryz.func23,Tryz.ntmps23
 go_wp2_with fail
 refine wp_region_rx (W:=w) (by kernel_rfl) (by kernel_rfl) (Ext.refl _) ?_
 repeat (go_big_quiet_step (fail))
 refine wpQuiet_nil ?_;rintro w1 ⟨⟨_,hx1⟩,rfl⟩;have X1:=zh hx1;clear hx1
 go_wp2_with fail
 refine wp_region_rx (W:=w) (by kernel_rfl) (by kernel_rfl) (zu X1) ?_
 repeat (go_big_quiet_step (fail))
 refine wpQuiet_nil ?_;rintro w2 ⟨⟨_,hx2⟩,rfl⟩;have X2:=zh hx2;clear hx2;have l0:=(zu X2).cell k4;have l1:=(zu X2).cell j1;have l2:=(zu X2).cell i0;have l3:=(zu X2).cell i1;have l4:=(zu X2).cell i2;have hs2:=(zu X2).size;have m0:=fun ob=>(Ext.alloc w2 ob).cell l0;have m1:=fun ob=>(Ext.alloc w2 ob).cell l1;have m2:=fun ob=>(Ext.alloc w2 ob).cell l2;have m3:=fun ob=>(Ext.alloc w2 ob).cell l3;have m4:=fun ob=>(Ext.alloc w2 ob).cell l4
 go_wp2_with fail
 refine wp_oneS ?_;apply Exists.intro;apply Exists.intro;apply And.intro
 ·go_region_law (first | fail)
  all_goals exact nrm_outW ⟨rfl,rfl⟩
 obtain⟨W2,hW2⟩:∃ W2,W2=(w2.alloc (Obj.cells #[.int .i64 3,.int .i64 (q:Int),.int .i64 b] 128)).drew:=⟨_,rfl⟩;have Y2:Ext w W2:=by rw[hW2];exact(zu X2).trans (Ext.drew (Ext.alloc _ _))
 have s2:W2.heap.size=w2.heap.size+1:=by rw[hW2];simp
 have r2:W2.heap[w2.heap.size]? = some (.cells #[.int .i64 3,.int .i64 (q:Int),.int .i64 b] 128 (0,0)):=by rw[hW2];exact Go.heap_alloc_new w2 _
 rw[← hW2];have x3:=((zu HX).ext Y2).setAt e2 (pc+1);have epc:((pc+1:Nat):Int)=(pc:Int)+1:=by omega
 rw[epc] at x3;have p1:=Y2.cell j1;have pf:W2.frozen? ⟨cb,bs.length * 3+1,none⟩=false:=((((zu HX).ext Y2).cb (by simp)).elim (fun c hc=>by
  have e:=hc.1;rw[e2] at e;injection e with e;injection e with e;subst e;exact hc.2.2.2.1 _))
 obtain⟨W3,hW3⟩:∃ W3,W3=W2.setCell ⟨cb,bs.length * 3+1,none⟩ (.int .i64 ((pc:Int)+1)):=⟨_,rfl⟩;rw[← hW3] at x3;have hcb2:w2.heap.size≠cb:=by omega
 have r3:W3.heap[w2.heap.size]? = some (.cells #[.int .i64 3,.int .i64 (q:Int),.int .i64 b] 128 (0,0)):=by rw[hW3,Below.heap_setCell _ _ _ _ hcb2];exact r2
 have t0:W3.cell? ⟨w2.heap.size,0,none⟩=some (.int .i64 3):=zr r3 0 rfl;have t1:W3.cell? ⟨w2.heap.size,1,none⟩=some (.int .i64 (q:Int)):=zr r3 1 rfl;have t2:W3.cell? ⟨w2.heap.size,2,none⟩=some (.int .i64 b):=zr r3 2 rfl;have q0:W2.cell? ⟨w2.heap.size,0,none⟩=some (.int .i64 3):=zr r2 0 rfl;have F3:SvF5 h.L w W3:=(SvF5.of hL Y2).trans x3.2;have X3:=zh x3.1;have HF3:=zh F3;have HR3:=zh r3;have HW3:=zh hW3;have q1:W2.cell? ⟨w2.heap.size,1,none⟩=some (.int .i64 (q:Int)):=zr r2 1 rfl;have q2:W2.cell? ⟨w2.heap.size,2,none⟩=some (.int .i64 b):=zr r2 2 rfl;obtain⟨g0,g1,g2,g3,g4,gf⟩:=x3.1.cells;simp only[List.length_append,List.length_cons,List.length_nil] at g1;rw[e1,hfl] at g0;rw[e2] at g1
 have f3:W3.cell? ⟨fb,fo+fn * 5+3,none⟩=some (.slice fca f.cs.length fcc):=by rw[World.cell?_of_block (w:=w) (F3.low fb hfb)];exact k3
 obtain⟨cb',e2',_,_,hcf3,hcell3⟩:=x3.1.cb (by simp);rw[e2] at e2';injection e2' with e2';injection e2' with e2';subst e2';obtain⟨n0,n1,n2⟩:=hcell3 bs.length (fn,pc+1,base) (by simp);simp only at n0 n1 n2;clear hcell3 x3 F3 r2 r3 hW2 hW3 l0 l1 l2 l3 l4 m0 m1 m2 m3 m4 v0 v1 vj0 gw c0 c1 c2 c3 c4 zf;have HPo:=zh (pop_v (zu X3) hn);have hwq:IntKind.i64.wrap ((base:Int)+(q:Int))=(base:Int)+(q:Int):=by rw[IntKind.wrap_i64];omega
 have hbq2:(base:Int)+(q:Int) < (us.length:Int):=by omega
 obtain⟨vb,e6,_,_,_,_⟩:=(zu X3).vb (by simp)
 go_wp2_with (go_at_call 26;rw[← zu HW3];refine Calls.mono (zu HPo) ?_;rintro e w5 ⟨rfl,hs,hf⟩;have HS5:=zh hs;have HF5:=zh hf;obtain⟨s0,s1,s2',s3,s4,sf⟩:=hs.cells;rw[e6] at s2';have y1:w5.cell? ⟨w2.heap.size,1,none⟩=some (.int .i64 (q:Int)):=zr (hf.typ _ _ _ _ (zu HR3) (by unfold T5;decide)) 1 rfl;obtain⟨cb5,e5c,_,_,cf5,hc5⟩:=hs.cb (by simp);rw[e2] at e5c;injection e5c with e5c;injection e5c with e5c;subst e5c;have n25:=(hc5 bs.length (fn,pc+1,base) (by simp)).2.2;obtain⟨vb5,e6',_,_,vf5,vc5⟩:=hs.vb (by omega);rw[e6] at e6';injection e6' with e6';injection e6' with e6';subst e6';obtain⟨ao,hao⟩:∃ ao,us[base+q]? = some ao:=⟨_,List.getElem?_eq_getElem hbq⟩;have n55:=vc5 _ _ hao;have HSV:=zh ((hs.ext (Ext.drew (Ext.refl w5))).setV e6 (base+q) ad);clear hs hf hc5 vc5 hao)
 go_still_tail 12,(by kernel_rfl)
 change wpList _ _ _ _ _ (World.drew w5)
 go_wp2_with fail
 go_ret;exact⟨rfl,(zu HSV).1,(((zu HF3).trans (zu HF5)).trans (SvF5.of (zu HS5).ltL (Ext.drew (Ext.refl w5)))).trans (zu HSV).2⟩
theorem enterOut (v u:Value) (w:World):(callFunc 57 #[v,u]).run Tryz.prog w = .ok (.enter 57 #[v,u]) w:=by kernel_rfl
theorem st_out (fns:List KF) (f:KF) {bs:List (Nat × Nat × Nat)} {fn pc base:Nat} (a b:Int) (hf:fns[fn]? = some f) (hi:f.code[pc]? = some ⟨11,a,b⟩) (hfl:h.fl=fns.length) (hp:RepP w (fun b=>b < h.L) h.fa fns) (x:SB h w (bs++[(fn,pc,base)]) ads fu ne evs d) (hbs:bs.length≤1000000) (hpc:pc≤1000000) (l:List SEv) (hl:ne=l.length) (hev:EvR l evs) (hfu:fu≤1000000) (hnl:l.length≤1000000) (us:List Addr) (ad:Addr) (hads:ads=us++[ad]) (hn:us.length≤1000000) (v:PV) (hP:PtV h.L w ad v):Calls Tryz.prog 23 #[.pointer (some ⟨h.g,0,none⟩)] w (TellS h w (bs++[(fn,pc+1,base)]) us fu l ⟨2,0,cp v⟩ d):=by
 obtain⟨c0,c1,c2,c3,c4,zf⟩:=x.cells;obtain⟨fb,fo,fca,fcc,fka,fkc,e1,hfb,k0,k1,k2,k3,k4,hcs,hcd⟩:=hp.at hf;obtain⟨ib,io,e3,hib,i0,i1,i2⟩:=hcd.at hi;subst e3;obtain⟨cb,e2,hcc,hcB,hcf,hcell⟩:=x.cb (by simp);obtain⟨j0,j1,j2⟩:=hcell bs.length (fn,pc,base) (by simp);simp only[List.length_append,List.length_cons,List.length_nil] at c1 hcc j0 j1 j2;rw[e2] at c1;rw[e1,hfl] at c0;have hfn:(fn:Int) < (fns.length:Int):=by have:=(List.getElem?_eq_some_iff.1 hf).1;omega
 have hpc2:(pc:Int) < (f.code.length:Int):=by have:=(List.getElem?_eq_some_iff.1 hi).1;omega
 have hwb:IntKind.i64.wrap (bs.length:Int)=(bs.length:Int):=by rw[IntKind.wrap_i64];omega
 have hbl:(bs.length:Int) < (bs.length:Int)+1:=by omega
 have hL:=x.ltL;have hg:=x.lt;have hcbw:=(x.oc.lt cb (by rw[e2];rfl)).2;have HX:=zh x;have HCS:=zh hcs;have gw:∀ {a:Addr} {u:Value},w.cell? a=some u→∀ v:RGw w,v.w.cell? a=some u:=fun h v=>v.h.cell h;have v0:=gw c0;have v1:=gw c1;have vj0:=gw j0;have hne:Nonempty (RGw w):=⟨⟨w,Ext.refl _⟩⟩;subst hl hads;obtain⟨vb1,vo1,sa1,sc1,e7,E7⟩:=hP;subst e7;have HE7:=zh E7;clear E7;clear x hp hf hi hcd hcell
 go_enter Tryz.func23,Tryz.ntmps23
 go_wp2_with fail
 refine wp_region_rx (W:=w) (by kernel_rfl) (by kernel_rfl) (Ext.refl _) ?_
 repeat (go_big_quiet_step (fail))
 refine wpQuiet_nil ?_;rintro w1 ⟨⟨_,hx1⟩,rfl⟩;have X1:=zh hx1;clear hx1
 go_wp2_with fail
 refine wp_region_rx (W:=w) (by kernel_rfl) (by kernel_rfl) (zu X1) ?_
 repeat (go_big_quiet_step (fail))
 refine wpQuiet_nil ?_;rintro w2 ⟨⟨_,hx2⟩,rfl⟩;have X2:=zh hx2;clear hx2;have l0:=(zu X2).cell k4;have l1:=(zu X2).cell j1;have l2:=(zu X2).cell i0;have l3:=(zu X2).cell i1;have l4:=(zu X2).cell i2;have hs2:=(zu X2).size;have m0:=fun ob=>(Ext.alloc w2 ob).cell l0;have m1:=fun ob=>(Ext.alloc w2 ob).cell l1;have m2:=fun ob=>(Ext.alloc w2 ob).cell l2;have m3:=fun ob=>(Ext.alloc w2 ob).cell l3;have m4:=fun ob=>(Ext.alloc w2 ob).cell l4
 go_wp2_with fail
 refine wp_oneS ?_;apply Exists.intro;apply Exists.intro;apply And.intro
 ·go_region_law (first | fail)
  all_goals exact nrm_outW ⟨rfl,rfl⟩
 obtain⟨W2,hW2⟩:∃ W2,W2=(w2.alloc (Obj.cells #[.int .i64 11,.int .i64 a,.int .i64 b] 128)).drew:=⟨_,rfl⟩;have Y2:Ext w W2:=by rw[hW2];exact(zu X2).trans (Ext.drew (Ext.alloc _ _))
 have s2:W2.heap.size=w2.heap.size+1:=by rw[hW2];simp
 have r2:W2.heap[w2.heap.size]? = some (.cells #[.int .i64 11,.int .i64 a,.int .i64 b] 128 (0,0)):=by rw[hW2];exact Go.heap_alloc_new w2 _
 rw[← hW2];have x3:=((zu HX).ext Y2).setAt e2 (pc+1);have epc:((pc+1:Nat):Int)=(pc:Int)+1:=by omega
 rw[epc] at x3;have p1:=Y2.cell j1;have pf:W2.frozen? ⟨cb,bs.length * 3+1,none⟩=false:=((((zu HX).ext Y2).cb (by simp)).elim (fun c hc=>by
  have e:=hc.1;rw[e2] at e;injection e with e;injection e with e;subst e;exact hc.2.2.2.1 _))
 obtain⟨W3,hW3⟩:∃ W3,W3=W2.setCell ⟨cb,bs.length * 3+1,none⟩ (.int .i64 ((pc:Int)+1)):=⟨_,rfl⟩;rw[← hW3] at x3;have hcb2:w2.heap.size≠cb:=by omega
 have r3:W3.heap[w2.heap.size]? = some (.cells #[.int .i64 11,.int .i64 a,.int .i64 b] 128 (0,0)):=by rw[hW3,Below.heap_setCell _ _ _ _ hcb2];exact r2
 have t0:W3.cell? ⟨w2.heap.size,0,none⟩=some (.int .i64 11):=zr r3 0 rfl;have t1:W3.cell? ⟨w2.heap.size,1,none⟩=some (.int .i64 a):=zr r3 1 rfl;have t2:W3.cell? ⟨w2.heap.size,2,none⟩=some (.int .i64 b):=zr r3 2 rfl;have q0:W2.cell? ⟨w2.heap.size,0,none⟩=some (.int .i64 11):=zr r2 0 rfl;have F3:SvF5 h.L w W3:=(SvF5.of hL Y2).trans x3.2;have X3:=zh x3.1;have HF3:=zh F3;have HR3:=zh r3;have HW3:=zh hW3;have q1:W2.cell? ⟨w2.heap.size,1,none⟩=some (.int .i64 a):=zr r2 1 rfl;have q2:W2.cell? ⟨w2.heap.size,2,none⟩=some (.int .i64 b):=zr r2 2 rfl;obtain⟨g0,g1,g2,g3,g4,gf⟩:=x3.1.cells;simp only[List.length_append,List.length_cons,List.length_nil] at g1;rw[e1,hfl] at g0;rw[e2] at g1
 have f3:W3.cell? ⟨fb,fo+fn * 5+3,none⟩=some (.slice fca f.cs.length fcc):=by rw[World.cell?_of_block (w:=w) (F3.low fb hfb)];exact k3
 obtain⟨cb',e2',_,_,hcf3,hcell3⟩:=x3.1.cb (by simp);rw[e2] at e2';injection e2' with e2';injection e2' with e2';subst e2';obtain⟨n0,n1,n2⟩:=hcell3 bs.length (fn,pc+1,base) (by simp);simp only at n0 n1 n2;clear hcell3 x3 F3 r2 r3 hW2 hW3 l0 l1 l2 l3 l4 m0 m1 m2 m3 m4 v0 v1 vj0 gw c0 c1 c2 c3 c4 zf;have hL3:=(zu X3).ltL;have HPo:=zh (pop_v ((zu X3).ext (Ext.drew (Ext.refl W3))) hn)
 go_wp2_with fail
 rw[← zu HW3];refine wp_nrm ?_
 go_region_law (first
  | (refine step_call_one rfl 26 (.tmp 143) 95 rfl _ (by simp[Act.eval,Act.put]) (enterPop _ _) (Calls.mono (zu HPo) ?_);rintro e w5 ⟨rfl,hs,hf⟩;refine⟨_,rfl,?_⟩;have FF:=((zu HF3).trans (SvF5.of hL3 (Ext.drew (Ext.refl W3)))).trans hf;have E5:=(zu HE7).to FF.nt;have z0:=E5.c0;have z1:=E5.c1;have z2:=E5.c2;have z3:=E5.c3;have z4:=E5.c4;obtain⟨s0,s1,s2',s3,s4,sf⟩:=hs.cells;have HO5:=zh (out_v l hs hev hfu hnl v _ _ _ _ _ E5.rep);have HF5:=zh FF;clear hs hf FF E5)
  | (have G:=zu HO5;clear G;refine step_call_two rfl 57 (.tmp 142) (.tmp 146) 54 32 rfl _ _ (by simp[Act.eval,Act.put]) (by simp[Act.eval,Act.put]) (enterOut _ _ _) (Calls.mono (zu HO5) ?_);rintro e w6 hT;unfold TellS at hT;have he:∃ v,e = .returned (.int .i64 v):=(by rcases hT.2 with⟨_,r,_⟩ | ⟨_,r,_⟩ <;> exact⟨_,r⟩);obtain⟨v6,rfl⟩:=he;refine⟨_,rfl,?_⟩;have HT6:=zh hT;clear hT))
 all_goals
  refine nrm_outW ?_
  go_wp2_with fail
  go_ret;unfold TellS;exact⟨(zu HF5).trans (zu HT6).1,(zu HT6).2⟩
end V
namespace V
variable {w w' w2:World} {h:SHd} {cs:List (Nat × Nat × Nat)} {ads:List Addr} {fu:Int} {ne:Nat} {evs:List Value} {d:SAd}
abbrev notP (p:PV):PV:=it (if truev (tk p) then 0 else 1)
theorem onot_w (p:PV) (v:Value) (w:World) (hr:Rep w (In w) p v):Ans 140 #[v] w (notP p) 0:=by
 have hS:=fun W (h:Ext w W)=>truth_any p v W (hr.ext h);unfold notP;generalize truev (tk p)=t at hS ⊢;have hT:=fun W=>told_any (!t) W;have hq:(if t=true then (0:Int) else 1)=if (!t)=true then 1 else 0:=by cases t <;> rfl
 rw[hq];have hb:-9223372036854775808≤(if (!t)=true then (1:Int) else 0)∧(if (!t)=true then (1:Int) else 0)≤9223372036854775807:=by cases t <;> decide
 obtain⟨k,n,re,im,s,l⟩:=p;rw[Rep] at hr;obtain⟨a,cap,rfl,_,_⟩:=hr;unfold Ans;generalize (if (!t)=true then (1:Int) else 0)=q at hT hb ⊢
 have HS:=zh hS;have HT:=zh hT;clear hS hT hq
 go_enter Tryz.func140,Tryz.ntmps140
 go_wp2_with (first
  | (go_at_call 54;refine Calls.mono (zu HS _ ((Ext.alloc _ _).trans (Ext.alloc _ _))) ?_;rintro e w1 ⟨rfl,hw1⟩;have W1:=zh hw1;clear hw1)
  | (go_at_call 160;refine Calls.mono (zu HT _) ?_;rintro e w2 ⟨rfl,hw2⟩;have W2:=zh ((zu W1).trans hw2);have fZ:=(Five.new _ _ _ _ _ _ _ _ _ _).on (zu W2);simp only[heap_alloc_size] at fZ;have z0:=fZ.c0;have z1:=fZ.c1;have z2:=fZ.c2;have z3:=fZ.c3;have z4:=fZ.c4;have zf:=fZ.fz;clear fZ hw2))
 exact bodyPost_ret (v:=.tuple #[.agg #[.int .i64 1,.int .i64 q,.complex .f64 0 0,.string ⟨#[]⟩,.slice none 0 0],.int .i64 0]) (by simp[results,Tryz.results140,go_sem,z0,z1,z2,z3,z4]) rfl (ans5 0 (w.heap.size+1) ((Ext.alloc _ _).trans (Ext.alloc _ _)) (by omega) (by simp) (zu W2) (rep_it _ _ _ hb.1 hb.2 _ _))
theorem un_not (p:PV) (v:Value) (w:World) (hr:Rep w (In w) p v):Ans 93 #[.int .i64 16,v] w (notP p) 0:=by
 refine unary_any 16 140 (by decide) (by decide) (fun W=>by kernel_rfl) (fun v W=>by kernel_rfl) p v w hr _ _ fun W hx => ?_;by_cases ho:okv p=true
 ·rw[if_pos ho]
  exact onot_w p v W (hr.ext hx)
 ·rw[if_neg ho]
  have h:=onot_w nilP nilV W (rep_nil _ _);have e:tk nilP=tk p:=by unfold tk;rw[if_neg ho];split <;> rfl
  unfold notP at h ⊢;rw[e] at h;exact h
theorem enterPopU (v:Value) (w:World):(callFunc 26 #[v]).run Tryz.prog w = .ok (.enter 26 #[v]) w:=by kernel_rfl
theorem enterUnary (v u:Value) (w:World):(callFunc 93 #[v,u]).run Tryz.prog w = .ok (.enter 93 #[v,u]) w:=by kernel_rfl
theorem workU_v {us:List Addr} {a1:Addr} (x:SB h w cs (us++[a1]) fu ne evs d) (hn:us.length≤999990) (o b:Int) (ho:o=16) (p:PV) (hp:PtV h.L w a1 p):Calls Tryz.prog 58 #[.pointer (some ⟨h.g,0,none⟩),.agg #[.int .i64 6,.int .i64 o,.int .i64 b]] w fun e w'=>e = .returned (.int .i64 0)∧(∃ a va vc,SB h w' cs (us++[a]) fu ne evs { d with va:=va,vc:=vc }∧PtV h.L w' a (notP p))∧SvF5 h.L w w':=by
 subst ho;obtain⟨q,hq⟩:∃ q:Int,notP p=it q:=⟨_,rfl⟩;rw[hq];have hL:=x.ltL;have HUq:Hd (∀ (v:Value) (W:World),Rep W (In W) p v→Ans 93 #[.int .i64 16,v] W (it q) 0):=fun v W hr=>by
  have h:=un_not p v W hr;rw[hq] at h;exact h
 clear hq;obtain⟨W,hW⟩:∃ W,W=w.alloc (.cells #[.int .i64 6,.int .i64 16,.int .i64 b] 128):=⟨_,rfl⟩;have X:Ext w W:=by rw[hW];exact Ext.alloc _ _
 have rI:W.heap[w.heap.size]? = some (.cells #[.int .i64 6,.int .i64 16,.int .i64 b] 128 (0,0)):=by rw[hW];exact Go.heap_alloc_new w _
 have F0:SvF5 h.L w W:=SvF5.of hL X;have XD:Ext w (World.drew W):=Ext.drew X;have HPo:=zh (pop_v (x.ext XD) (by omega));have hLW:h.L≤W.heap.size:=Nat.le_trans hL X.size;have y0:(World.drew W).cell? ⟨w.heap.size,1,none⟩=some (.int .i64 16):=(Ext.drew (Ext.refl W)).cell (zr rI 1 rfl);obtain⟨b1,o1,sa1,sc1,rfl,E1⟩:=hp.on F0;have HE1:=zh E1;have HRI:=zh rI;have HF0:=zh F0;have HW:=zh hW;clear x hp E1 F0 rI X hW XD
 go_enter Tryz.func58,Tryz.ntmps58
 go_wp2_with fail
 rw[← zu HW];refine wp_nrm ?_
 go_region_law (first
  | (refine step_call_one rfl 26 (.tmp 34) 95 rfl _ (by simp[Act.eval,Act.put]) (enterPopU _ _) (Calls.mono (zu HPo) ?_);rintro e w5 ⟨rfl,hs,hf⟩;have FF:=(SvF5.of hLW (Ext.drew (Ext.refl W))).trans hf;have E5:=(zu HE1).to FF.nt;have z0:=E5.c0;have z1:=E5.c1;have z2:=E5.c2;have z3:=E5.c3;have z4:=E5.c4;have y1:w5.cell? ⟨w.heap.size,1,none⟩=some (.int .i64 16):=zr (FF.typ _ _ _ _ (zu HRI) (by unfold T5;decide)) 1 rfl;have HUn:=zh (zu HUq _ w5 (Rep.to (w':=w5) (F:=NT h.L w5) (F':=In w5) (fun b hb=>⟨hb.1,rfl⟩) _ _ E5.rep));have HS5:=zh hs;have HF5:=zh FF;clear hs hf E5 FF;refine⟨_,rfl,?_⟩)
  | (refine step_call_two rfl 93 (.tmp 33) (.tmp 37) 3 32 rfl _ _ (by simp[Act.eval,Act.put]) (by simp[Act.eval,Act.put]) (enterUnary _ _ _) (Calls.mono (zu HUn) ?_);rintro e w6 ⟨r6,rfl,hr6,hx6⟩;obtain⟨a6,c6,rfl,q1,q2⟩:=rep_itE hr6;refine⟨_,rfl,?_⟩;have HKp:=zh (keep_v ((zu HS5).ext hx6) (by omega) (it q) _ _ _ _ _ (rep_it _ _ _ q1 q2 a6 c6));have X6:=zh hx6;clear hr6 hx6)
  | (have G:=zu HKp;clear G;refine step_call_threeS rfl 91 (.tmp 31) (.tmp 39) (.tmp 40) 95 32 33 rfl _ _ _ (by simp[Act.eval,Act.put]) (by simp[Act.eval,Act.put]) (by simp[Act.eval,Act.put]) (enterKeep _ _ _ _) (Calls.mono (zu HKp) ?_);rintro e w7 ⟨rfl,⟨a7,va7,vc7,hs7,hp7⟩,hf7⟩;refine⟨_,rfl,?_⟩;have HS7:=zh hs7;have HP7:=zh hp7;have HF7:=zh hf7;clear hs7 hp7 hf7))
 all_goals
  refine nrm_outU ?_
  go_wp2_with fail
  go_ret;have FF:=(((zu HF0).trans (zu HF5)).trans (SvF5.of (zu HS5).ltL (zu X6))).trans (zu HF7);exact⟨rfl,⟨_,_,_,zu HS7,zu HP7⟩,FF⟩
end V
namespace V
variable {w w' w2:World} {h:SHd} {cs:List (Nat × Nat × Nat)} {ads:List Addr} {fu:Int} {ne:Nat} {evs:List Value} {d:SAd}
theorem st_un (fns:List KF) (f:KF) {bs:List (Nat × Nat × Nat)} {fn pc base:Nat} (a b:Int) (hf:fns[fn]? = some f) (hi:f.code[pc]? = some ⟨6,a,b⟩) (hfl:h.fl=fns.length) (hp:RepP w (fun b=>b < h.L) h.fa fns) (x:SB h w (bs++[(fn,pc,base)]) ads fu ne evs d) (hbs:bs.length≤1000000) (hpc:pc≤1000000) (ha:a=16) (us:List Addr) (a1:Addr) (hads:ads=us++[a1]) (hn:us.length≤999990) (p:PV) (hP:PtV h.L w a1 p):Calls Tryz.prog 23 #[.pointer (some ⟨h.g,0,none⟩)] w fun e w'=>e = .returned (.int .i64 0)∧(∃ ad va vc,SB h w' (bs++[(fn,pc+1,base)]) (us++[ad]) fu ne evs { d with va:=va,vc:=vc }∧PtV h.L w' ad (notP p))∧SvF5 h.L w w':=by
 obtain⟨c0,c1,c2,c3,c4,zf⟩:=x.cells;obtain⟨fb,fo,fca,fcc,fka,fkc,e1,hfb,k0,k1,k2,k3,k4,hcs,hcd⟩:=hp.at hf;obtain⟨ib,io,e3,hib,i0,i1,i2⟩:=hcd.at hi;subst e3;obtain⟨cb,e2,hcc,hcB,hcf,hcell⟩:=x.cb (by simp);obtain⟨j0,j1,j2⟩:=hcell bs.length (fn,pc,base) (by simp);simp only[List.length_append,List.length_cons,List.length_nil] at c1 hcc j0 j1 j2;rw[e2] at c1;rw[e1,hfl] at c0;have hfn:(fn:Int) < (fns.length:Int):=by have:=(List.getElem?_eq_some_iff.1 hf).1;omega
 have hpc2:(pc:Int) < (f.code.length:Int):=by have:=(List.getElem?_eq_some_iff.1 hi).1;omega
 have hwb:IntKind.i64.wrap (bs.length:Int)=(bs.length:Int):=by rw[IntKind.wrap_i64];omega
 have hbl:(bs.length:Int) < (bs.length:Int)+1:=by omega
 have hL:=x.ltL;have hg:=x.lt;have hcbw:=(x.oc.lt cb (by rw[e2];rfl)).2;have HX:=zh x;have HCS:=zh hcs;have gw:∀ {a:Addr} {u:Value},w.cell? a=some u→∀ v:RGw w,v.w.cell? a=some u:=fun h v=>v.h.cell h;have v0:=gw c0;have v1:=gw c1;have vj0:=gw j0;have hne:Nonempty (RGw w):=⟨⟨w,Ext.refl _⟩⟩;subst hads;have HAa:=zh ha;clear ha;clear x hp hf hi hcd hcell
 go_enter Tryz.func23,Tryz.ntmps23
 go_wp2_with fail
 refine wp_region_rx (W:=w) (by kernel_rfl) (by kernel_rfl) (Ext.refl _) ?_
 repeat (go_big_quiet_step (fail))
 refine wpQuiet_nil ?_;rintro w1 ⟨⟨_,hx1⟩,rfl⟩;have X1:=zh hx1;clear hx1
 go_wp2_with fail
 refine wp_region_rx (W:=w) (by kernel_rfl) (by kernel_rfl) (zu X1) ?_
 repeat (go_big_quiet_step (fail))
 refine wpQuiet_nil ?_;rintro w2 ⟨⟨_,hx2⟩,rfl⟩;have X2:=zh hx2;clear hx2;have l0:=(zu X2).cell k4;have l1:=(zu X2).cell j1;have l2:=(zu X2).cell i0;have l3:=(zu X2).cell i1;have l4:=(zu X2).cell i2;have hs2:=(zu X2).size;have m0:=fun ob=>(Ext.alloc w2 ob).cell l0;have m1:=fun ob=>(Ext.alloc w2 ob).cell l1;have m2:=fun ob=>(Ext.alloc w2 ob).cell l2;have m3:=fun ob=>(Ext.alloc w2 ob).cell l3;have m4:=fun ob=>(Ext.alloc w2 ob).cell l4
 go_wp2_with fail
 refine wp_oneS ?_;apply Exists.intro;apply Exists.intro;apply And.intro
 ·go_region_law (first | fail)
  all_goals exact nrm_outW ⟨rfl,rfl⟩
 obtain⟨W2,hW2⟩:∃ W2,W2=(w2.alloc (Obj.cells #[.int .i64 6,.int .i64 a,.int .i64 b] 128)).drew:=⟨_,rfl⟩;have Y2:Ext w W2:=by rw[hW2];exact(zu X2).trans (Ext.drew (Ext.alloc _ _))
 have s2:W2.heap.size=w2.heap.size+1:=by rw[hW2];simp
 have r2:W2.heap[w2.heap.size]? = some (.cells #[.int .i64 6,.int .i64 a,.int .i64 b] 128 (0,0)):=by rw[hW2];exact Go.heap_alloc_new w2 _
 rw[← hW2];have x3:=((zu HX).ext Y2).setAt e2 (pc+1);have epc:((pc+1:Nat):Int)=(pc:Int)+1:=by omega
 rw[epc] at x3;have p1:=Y2.cell j1;have pf:W2.frozen? ⟨cb,bs.length * 3+1,none⟩=false:=((((zu HX).ext Y2).cb (by simp)).elim (fun c hc=>by
  have e:=hc.1;rw[e2] at e;injection e with e;injection e with e;subst e;exact hc.2.2.2.1 _))
 obtain⟨W3,hW3⟩:∃ W3,W3=W2.setCell ⟨cb,bs.length * 3+1,none⟩ (.int .i64 ((pc:Int)+1)):=⟨_,rfl⟩;rw[← hW3] at x3;have hcb2:w2.heap.size≠cb:=by omega
 have r3:W3.heap[w2.heap.size]? = some (.cells #[.int .i64 6,.int .i64 a,.int .i64 b] 128 (0,0)):=by rw[hW3,Below.heap_setCell _ _ _ _ hcb2];exact r2
 have t0:W3.cell? ⟨w2.heap.size,0,none⟩=some (.int .i64 6):=zr r3 0 rfl;have t1:W3.cell? ⟨w2.heap.size,1,none⟩=some (.int .i64 a):=zr r3 1 rfl;have t2:W3.cell? ⟨w2.heap.size,2,none⟩=some (.int .i64 b):=zr r3 2 rfl;have q0:W2.cell? ⟨w2.heap.size,0,none⟩=some (.int .i64 6):=zr r2 0 rfl;have F3:SvF5 h.L w W3:=(SvF5.of hL Y2).trans x3.2;have X3:=zh x3.1;have HF3:=zh F3;have HR3:=zh r3;have HW3:=zh hW3;have q1:W2.cell? ⟨w2.heap.size,1,none⟩=some (.int .i64 a):=zr r2 1 rfl;have q2:W2.cell? ⟨w2.heap.size,2,none⟩=some (.int .i64 b):=zr r2 2 rfl;obtain⟨g0,g1,g2,g3,g4,gf⟩:=x3.1.cells;simp only[List.length_append,List.length_cons,List.length_nil] at g1;rw[e1,hfl] at g0;rw[e2] at g1
 have f3:W3.cell? ⟨fb,fo+fn * 5+3,none⟩=some (.slice fca f.cs.length fcc):=by rw[World.cell?_of_block (w:=w) (F3.low fb hfb)];exact k3
 obtain⟨cb',e2',_,_,hcf3,hcell3⟩:=x3.1.cb (by simp);rw[e2] at e2';injection e2' with e2';injection e2' with e2';subst e2';obtain⟨n0,n1,n2⟩:=hcell3 bs.length (fn,pc+1,base) (by simp);simp only at n0 n1 n2;clear hcell3 x3 F3 r2 r3 hW2 hW3 l0 l1 l2 l3 l4 m0 m1 m2 m3 m4 v0 v1 vj0 gw c0 c1 c2 c3 c4 zf;have HWk:=zh (workU_v (zu X3) hn a b (zu HAa) p (hP.on (zu HF3)));clear hP
 go_wp2_with (go_at_call 58;rw[← zu HW3];refine Calls.mono (zu HWk) ?_;rintro e w5 ⟨rfl,⟨ad,va,vc,hs,hp5⟩,hf⟩;have HS5:=zh hs;have HP5:=zh hp5;have HF5:=zh hf;clear hs hf hp5)
 go_ret;exact⟨rfl,⟨_,_,_,zu HS5,zu HP5⟩,(zu HF3).trans (zu HF5)⟩
end V
end Go.Proofs.YtjnpehohialmbaaGreat
