/- The machine with a stack: open,shut. -/
import Derived.Test.YtjnpehohialmbaaGreatZs38
set_option linter.unusedSimpArgs false
set_option linter.unusedVariables false
set_option maxRecDepth 10000
set_option maxHeartbeats 4000000
namespace Go.Proofs.YtjnpehohialmbaaGreat
open Go.RowKit
namespace V
variable {w w' w2:World} {h:SHd} {cs:List (Nat × Nat × Nat)} {ads:List Addr} {fu:Int} {ne:Nat} {evs:List Value} {d:SAd}
theorem infoCl:(Tryz.prog.info? 138).map (fun i=>(i.zero,i.size,i.bytes))=some (some (.agg #[.int .i64 0,.int .i64 0,.int .i64 0]),3,24):=by kernel_rfl
theorem nrm_outT {Q:Exit→Act→World→Prop} {a:Act} {w:World} (h:Q .normal a w):Nrm Q .normal a w:=h
theorem open_v (fns:List KF) (k:Nat) (f:KF) (hk:fns[k]? = some f) (hfl:h.fl=fns.length) (hp:RepP w (fun b=>b < h.L) h.fa fns) (x:SB h w cs ads fu ne evs d) (h1:ads.length≤1000000) (h2:cs.length≤1000000) (hkb:k≤1000000) (p m j:Nat) (hps:f.ps=(p:Int)) (hlc:f.lc=(p:Int)+(m:Int)) (hpb:p≤1000) (hm:m≤1000) (hj:ads.length=j+p):Calls Tryz.prog 22 #[.pointer (some ⟨h.g,0,none⟩),.int .i64 (k:Int)] w fun e w'=>e = .returned (.tuple #[])∧(∃ ca cc va vc,SB h w' (cs++[(k,0,j)]) (ads++List.replicate m h.na) fu ne evs { d with ca:=ca,cc:=cc,va:=va,vc:=vc })∧SvF5 h.L w w':=by
 obtain⟨c0,c1,c2,c3,c4,zf⟩:=x.cells;obtain⟨fb,fo,fca,fcc,fka,fkc,e1,hfb,k0,k1,k2,k3,k4,_,_⟩:=hp.at hk;rw[e1,hfl] at c0;rw[hps] at k1;rw[hlc] at k2;rw[hj] at c2;have hg:=x.lt;have hL:=x.ltL;have hlb:=x.lb;have hkl:(k:Int) < (fns.length:Int):=by have:=(List.getElem?_eq_some_iff.1 hk).1;omega
 have hfbw:fb≠w.heap.size:=by omega
 have hgw:h.g≠w.heap.size:=by omega
 have a1:=fun ob=>(Ext.alloc w ob).cell c1;have a2:=fun ob=>(Ext.alloc w ob).cell c2;have b1:=fun ob=>(Ext.alloc w ob).cell k1;have HXA:=zh (fun ob=>x.ext (Ext.drew (Ext.alloc w ob)));have K1:=zh k1;have K2:=zh k2;have HFB:=zh hfb;obtain⟨i0,hi,hz0,hz1,hz2⟩:=info_parts infoCl;have HI:=zh hi;have Z0:=zh hz0;have Z1:=zh hz1;have Z2:=zh hz2;have HJ:=zh hj;have hjb:j≤1000000:=by omega
 have hwj:IntKind.i64.wrap (j:Int)=(j:Int):=by rw[IntKind.wrap_i64];omega
 clear hi hz0 hz1 hz2 x hp hk hj hps hlc
 go_enter Tryz.func22,Tryz.ntmps22
 go_wp2_with fail
 refine wp_nrm ?_
 go_region_law (first
  | (refine step_append_where rfl (.tmp 15) (.tmp 28) 56 rfl h.B 138 i0 (.agg #[.int .i64 0,.int .i64 0,.int .i64 0]) 3 24 Tryz.underlying56 (zu HI) (zu Z0) (zu Z1) (zu Z2) rfl (by decide) d.ca cs.length d.cc (cs.flatMap clC) (by simp[Act.eval,Act.put]) (zu HXA _).oc ⟨w.heap.size,0,none⟩ 1 1 [.int .i64 (k:Int),.int .i64 0,.int .i64 (j:Int)] (by simp[Act.eval,Act.put]) (by decide) rfl (cells_new w _ _) (by intro u hu;simp at hu;rcases hu with rfl | rfl | rfl <;> rfl) (by unfold maxLen;omega) (by omega) (by simp;omega) ?_;intro g7 cap7 w7 ho7 hg7 hw7;obtain⟨P7,F7,K7⟩:=SB.pushC (c:=(k,0,j)) (zu HXA _) ho7 hg7;have row7:=K7.trans (zu HXA _).row;have y17:=zr row7 1 rfl;have yf7:=fun i=>rowF row7 i;have HP7:=zh P7;have HF7:=zh ((SvF5.of hL (Ext.drew (Ext.alloc w _))).trans F7);clear P7 F7 K7 row7 ho7 hg7 hw7))
 all_goals
  refine nrm_outT ?_
  go_wp2_with fail
  obtain⟨W8,hW8⟩:∃ W8,W8=w7.setCell ⟨h.g,1,none⟩ (.slice (some ⟨g7,0,none⟩) (cs.length+1) cap7):=⟨_,rfl⟩;rw[← hW8] at HP7 HF7 ⊢;have e8:∀ o,W8.cell? ⟨fb,o,none⟩=w.cell? ⟨fb,o,none⟩:=fun o=>World.cell?_of_block (w:=w) ((zu HF7).low fb (zu HFB));have z1:W8.cell? ⟨fb,fo+k * 5+1,none⟩=some (.int .i64 (p:Int)):=by rw[e8];exact zu K1
  have z2:W8.cell? ⟨fb,fo+k * 5+2,none⟩=some (.int .i64 ((p:Int)+(m:Int))):=by rw[e8];exact zu K2
  have hwm:IntKind.i64.wrap (m:Int)=(m:Int):=by rw[IntKind.wrap_i64];omega
  have hne9:Nonempty (RGw W8):=⟨⟨W8,Ext.refl _⟩⟩;have zz1:∀ v:RGw W8,v.w.cell? ⟨fb,fo+k * 5+1,none⟩=some (.int .i64 (p:Int)):=fun v=>v.h.cell z1;have zz2:∀ v:RGw W8,v.w.cell? ⟨fb,fo+k * 5+2,none⟩=some (.int .i64 ((p:Int)+(m:Int))):=fun v=>v.h.cell z2;clear hW8 e8 y17 yf7 a1 a2 b1 c0 c1 c2 c3 c4 zf k0 k1 k2 k3 k4;refine wp_region_rx (W:=W8) (by kernel_rfl) (by kernel_rfl) (Ext.refl _) ?_
  repeat (go_big_quiet_step (fail))
  refine wpQuiet_nil ?_;rintro w9 ⟨⟨_,hx9⟩,rfl⟩;have HP9:=zh ((zu HP7).ext hx9);have HF9:=zh ((zu HF7).trans (SvF5.of (zu HP7).ltL hx9));clear HP7 HF7 hx9 z1 z2 zz1 zz2 hne9
  go_wp2_with fail
  rw[show (p:Int)+(m:Int) - (p:Int)=(m:Int) by omega]
  go_loopw [41] (fun t wr => ∃ (i:Nat) (va:Option Addr) (vc:Nat),t = .int .i64 (i:Int)∧i≤m∧Hd (SB h wr (cs++[(k,0,j)]) (ads++List.replicate i h.na) fu ne evs ⟨some ⟨g7,0,none⟩,cap7,va,vc,d.ea,d.ec⟩)∧Hd (SvF5 h.L w wr)) (fun t _=>m - (intOf t).toNat)
  case atStart=>exact⟨0,d.va,d.vc,rfl,by omega,by simpa [Hd] using HP9,HF9⟩
  case round =>
   obtain⟨i,va,vc,rfl,hi,hS,hF⟩:=hrel;by_cases hlt:i < m
   ·have hlt2:(i:Int) < (m:Int):=by omega
    obtain⟨c0,c1,c2,c3,c4,zf⟩:=(zu hS).cells;have HPu:=zh (push_v (zu hS) (by simp;omega) h.na);clear c0 c1 c2 c4
    go_wp2_with (go_at_call 53;refine Calls.mono (zu HPu) ?_;rintro e w5 ⟨rfl,⟨va5,vc5,hs5⟩,hf5⟩;have HS5:=zh hs5;have HF5:=zh ((zu hF).trans hf5);clear hs5 hf5)
    go_roundw
    case rel =>
     refine⟨i+1,va5,vc5,by go_num,by omega,?_,HF5⟩;have hs:=zu HS5;rw[List.append_assoc,← List.replicate_succ'] at hs;exact hs
    case measure=>simp[intOf];omega
   ·have hlt2:¬ (i:Int) < (m:Int):=by omega
    have him:i=m:=by omega
    rw[him] at hS
    go_wp2_with fail
    go_end0
    exact⟨rfl,⟨_,_,_,_,zu hS⟩,zu hF⟩
theorem enterPop (v:Value) (w:World):(callFunc 26 #[v]).run Tryz.prog w = .ok (.enter 26 #[v]) w:=by kernel_rfl
theorem shut_v {us:List Addr} {a:Addr} {bs:List (Nat × Nat × Nat)} {fn at_ base:Nat} (x:SB h w (bs++[(fn,at_,base)]) (us++[a]) fu ne evs d) (h1:us.length≤1000000) (h2:bs.length≤1000000) (hb:base≤us.length):Calls Tryz.prog 55 #[.pointer (some ⟨h.g,0,none⟩)] w fun e w'=>e = .returned (.tuple #[])∧(∃ va vc,SB h w' bs (us.take base++[a]) fu ne evs { d with va:=va,vc:=vc })∧SvF5 h.L w w':=by
 obtain⟨ca,cc,va,vc,ea,ec⟩:=d;obtain⟨c0,c1,c2,c3,c4,zf⟩:=x.cells;obtain⟨vb,e1,hvc,hvB,_,_⟩:=x.vb (by simp);obtain⟨cb,e2,hcc,hcB,_,_⟩:=x.cb (by simp);simp only[List.length_append,List.length_cons,List.length_nil] at c1 c2 e1 e2 hvc hcc;subst e1 e2;have hg:=x.lt;have hL:=x.ltL;have hlb:=x.lb;have hlg:=x.lg;have XD:Ext w (World.drew w):=Ext.drew (Ext.refl w);have HP:=zh (pop_v (x.ext XD) h1);have y1:=XD.cell c1;have XDh:=zh XD;have hbl:(bs.length:Int)+1≤(cc:Int):=by omega
 have hwb:IntKind.i64.wrap (bs.length:Int)=(bs.length:Int):=by rw[IntKind.wrap_i64];omega
 obtain⟨i0,hi,hz0,hz1,hz2⟩:=info_parts infoPt;have HI:=zh hi;have Z0:=zh hz0;have Z1:=zh hz1;have Z2:=zh hz2;clear hi hz0 hz1 hz2 x XD
 go_enter Tryz.func55,Tryz.ntmps55
 go_wp2_with fail
 refine wp_nrm ?_
 go_region_law (first
  | (refine step_call_one rfl 26 (.tmp 4) 95 rfl _ (by simp[Act.eval,Act.put]) (enterPop _ _) (Calls.mono (zu HP) ?_);rintro e w3 ⟨rfl,hs3,hf3⟩;refine⟨_,rfl,?_⟩;obtain⟨m0,m1,m2,m3,m4,mf⟩:=hs3.cells;simp only[List.length_append,List.length_cons,List.length_nil] at m1;have HS3:=zh hs3;have HF3:=zh ((SvF5.of hL (zu XDh)).trans hf3);clear hs3 hf3))
 all_goals
  refine nrm_outT ?_;clear c0 c1 c2 c3 c4 zf y1;obtain⟨cb',q2,_,_,_,hcell⟩:=(zu HS3).cb (by simp);simp only[Option.some.injEq,Addr.mk.injEq] at q2;obtain⟨q2,-⟩:=q2;subst q2;have k3:=(hcell bs.length (fn,at_,base) (by simp)).2.2;simp only at k3;have hs3:=(zu HS3).lt;have hlb3:=(zu HS3).lb;have hcb3:cb≠w3.heap.size:=by have:=((zu HS3).oc.lt cb rfl).2;omega
  have hgw3:h.g≠w3.heap.size:=by omega
  have a1:=fun ob=>(Ext.alloc w3 ob).cell m1;have a2:=fun ob=>(Ext.alloc w3 ob).cell m2;have a3:=fun ob=>(Ext.alloc w3 ob).cell k3;have HXA:=zh (fun ob=>(zu HS3).ext (Ext.drew (Ext.alloc w3 ob)));have HXC:Hd (∀ ob,(World.drew (w3.alloc ob)).ownsRow h.B 53 1 (.slice (some ⟨vb,0,none⟩) base vc) base ((us.take base).map ptC)):=fun ob=>by
   have:=own_cut (zu HXA ob).ov hb;rw[Nat.mul_one,← List.map_take] at this;exact this
  have hb2:(base:Int)≤(vc:Int):=by omega
  have hbi:(bs.length:Int) < (bs.length:Int)+1:=by omega
  clear hcell
  go_wp2_with fail
  refine wp_nrm ?_
  go_region_law (first
   | (refine step_append_where rfl (.tmp 25) (.tmp 27) 57 rfl h.B 53 i0 (.pointer none) 1 8 Tryz.underlying57 (zu HI) (zu Z0) (zu Z1) (zu Z2) rfl (by decide) (some ⟨vb,0,none⟩) base vc ((us.take base).map ptC) (by simp[Act.eval,Act.put]) (zu HXC _) ⟨w3.heap.size,0,none⟩ 1 1 [ptC a] (by simp[Act.eval,Act.put]) (by decide) rfl (cells_new w3 _ _) (by intro u hu;simp at hu;rw[hu];rfl) (by unfold maxLen;omega) (by omega) (by simp;omega) ?_;intro g7 cap7 w7 ho7 hg7 hw7;obtain⟨P7,F7,K7⟩:=SB.pushVc (a:=a) (zu HXA _) hb ho7 hg7;have row7:=K7.trans (zu HXA _).row;have y27:=zr row7 2 rfl;have yf7:=fun i=>rowF row7 i;have HP7:=zh P7;have HF7:=zh ((zu HF3).trans ((SvF5.of (zu HS3).ltL (Ext.drew (Ext.alloc w3 _))).trans F7));clear P7 F7 K7 row7 ho7 hg7 hw7))
  all_goals
   refine nrm_outT ?_;obtain⟨W8,hW8⟩:∃ W8,W8=w7.setCell ⟨h.g,2,none⟩ (.slice (some ⟨g7,0,none⟩) (base+1) cap7):=⟨_,rfl⟩;rw[← hW8] at HP7 HF7 ⊢;obtain⟨n0,n1,n2,n3,n4,nf⟩:=(zu HP7).cells;simp only[List.length_append,List.length_cons,List.length_nil] at n1;have HQ:=(zu HP7).cutC bs.length (by simp);rw[List.take_left] at HQ;have HQ:=zh HQ;clear hW8 y27 yf7 a1 a2 a3 m0 m1 m2 m3 m4 mf k3 n0 n2 n3 n4
   go_wp2_with fail
   go_end0
   exact⟨rfl,⟨_,_,(zu HQ).1⟩,(zu HF7).trans (zu HQ).2⟩
end V
end Go.Proofs.YtjnpehohialmbaaGreat
