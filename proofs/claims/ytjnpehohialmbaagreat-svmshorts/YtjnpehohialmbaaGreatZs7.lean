/- The operators of the level 3,as the document finds them. -/
import Derived.Test.YtjnpehohialmbaaGreatZs6
set_option linter.unusedSimpArgs false
set_option linter.unusedVariables false
set_option maxRecDepth 10000
set_option maxHeartbeats 8000000
namespace Go.Proofs.YtjnpehohialmbaaGreat
open Go.RowKit
section
variable {w w':World} {g len:Nat} {T:List Tk} {wd:Int} {st:PS}
theorem opOf_3 (h:Rp w g len T wd st) (h0:st.e=0):Calls Tryz.prog 119 #[.pointer (some ⟨g,0,none⟩),.int .i64 3] w fun e w'=>e = .returned (.int .i64 (opN (st.oper 3)))∧Ext w w':=by
 have HI:=zh (fun (s:ByteArray) (hs:wordL s.toList=false) (W:World) (x:Ext w W)=>isA_S h h0 hs ▸ is_r (h.ext x) h0 s);have hop:st.oper 3=sgFind st 3 0 (sgL 3):=oper_sg st 3 (by omega);have HOp:=zh hop;obtain⟨W0,hW0⟩:∃ W0,W0=((w.alloc (.cells #[] 9)).alloc (.cells #[.string ⟨#[61,61]⟩,.string ⟨#[33,61]⟩,.string ⟨#[60]⟩,.string ⟨#[60,61]⟩,.string ⟨#[62]⟩,.string ⟨#[62,61]⟩] 9)):=⟨_,rfl⟩;have hrow:W0.heap[w.heap.size+1]? = some (.cells #[.string ⟨#[61,61]⟩,.string ⟨#[33,61]⟩,.string ⟨#[60]⟩,.string ⟨#[60,61]⟩,.string ⟨#[62]⟩,.string ⟨#[62,61]⟩] 9 (0,0)):=by
  have:=Go.heap_alloc_new (w.alloc (.cells #[] 9)) (.cells #[.string ⟨#[61,61]⟩,.string ⟨#[33,61]⟩,.string ⟨#[60]⟩,.string ⟨#[60,61]⟩,.string ⟨#[62]⟩,.string ⟨#[62,61]⟩] 9);rw[size_alloc] at this;rw[hW0];exact this
 have hx0:Ext w W0:=by rw[hW0];exact(Ext.alloc _ _).trans (Ext.alloc _ _)
 have HRow:=zh hrow;have HX0:=zh hx0;clear hrow hx0 hop h
 go_enter Tryz.func119,Tryz.ntmps119
 go_wp2_with fail
 rw[← hW0];clear hW0
 go_loopw [7] (fun t wr => ∃ (j:Nat),t = .int .i64 j∧j≤6∧Hd (sgFind st 3 0 (sgL 3)=sgFind st 3 j ((sgL 3).drop j))∧Hd (Ext W0 wr)) (fun t _ => 6 - (intOf t).toNat)
 case atStart=>exact⟨0,rfl,by omega,rfl,Ext.refl _⟩
 case round =>
  obtain⟨j,rfl,hj,hF,hX⟩:=hrel;have R1:=zh ((zu hX).row (zu HRow));have X0:=zh ((zu HX0).trans (zu hX));rcases (show j=0∨j=1∨j=2∨j=3∨j=4∨j=5∨j=6 by omega) with rfl | rfl | rfl | rfl | rfl | rfl | rfl
  ·have ck:=zr (zu R1) 0 (v:=.string ⟨#[61,61]⟩) rfl
   have HI0:=zh (zu HI ⟨#[61,61]⟩ (by decide +kernel) _ (zu X0));cases hb:st.isS ⟨#[61,61]⟩
   ·rw[hb] at HI0
    have HF2:Hd (sgFind st 3 0 (sgL 3)=sgFind st 3 1 ((sgL 3).drop 1)):=(zu hF).trans (by show (if st.isS ⟨#[61,61]⟩ then _ else _)=_;rw[hb];rfl)
    clear hb hF
    go_wp2_with (go_at_call 63;refine Calls.mono (zu HI0) ?_;rintro e w1 ⟨rfl,hw⟩;have X1:=zh ((zu hX).trans hw);clear hw)
    go_roundw
    case rel=>exact⟨1,by go_num,by omega,HF2,X1⟩
    case measure=>simp[intOf]
   ·rw[hb] at HI0
    have HF2:opN (st.oper 3)=6:=by
     rw[zu HOp,zu hF];show opN (if st.isS ⟨#[61,61]⟩ then _ else _)=_
     rw[hb];rfl
    have HF2:=zh HF2;clear hb hF
    go_wp2_with (go_at_call 63;refine Calls.mono (zu HI0) ?_;rintro e w1 ⟨rfl,hw⟩;have X1:=zh ((zu X0).trans hw);clear hw)
    go_ret;exact⟨by rw[zu HF2];first | rfl | simp,zu X1⟩
  ·have ck:=zr (zu R1) 1 (v:=.string ⟨#[33,61]⟩) rfl
   have HI1:=zh (zu HI ⟨#[33,61]⟩ (by decide +kernel) _ (zu X0));cases hb:st.isS ⟨#[33,61]⟩
   ·rw[hb] at HI1
    have HF2:Hd (sgFind st 3 0 (sgL 3)=sgFind st 3 2 ((sgL 3).drop 2)):=(zu hF).trans (by show (if st.isS ⟨#[33,61]⟩ then _ else _)=_;rw[hb];rfl)
    clear hb hF
    go_wp2_with (go_at_call 63;refine Calls.mono (zu HI1) ?_;rintro e w1 ⟨rfl,hw⟩;have X1:=zh ((zu hX).trans hw);clear hw)
    go_roundw
    case rel=>exact⟨2,by go_num,by omega,HF2,X1⟩
    case measure=>simp[intOf]
   ·rw[hb] at HI1
    have HF2:opN (st.oper 3)=7:=by
     rw[zu HOp,zu hF];show opN (if st.isS ⟨#[33,61]⟩ then _ else _)=_
     rw[hb];rfl
    have HF2:=zh HF2;clear hb hF
    go_wp2_with (go_at_call 63;refine Calls.mono (zu HI1) ?_;rintro e w1 ⟨rfl,hw⟩;have X1:=zh ((zu X0).trans hw);clear hw)
    go_ret;exact⟨by rw[zu HF2];first | rfl | simp,zu X1⟩
  ·have ck:=zr (zu R1) 2 (v:=.string ⟨#[60]⟩) rfl
   have HI2:=zh (zu HI ⟨#[60]⟩ (by decide +kernel) _ (zu X0));cases hb:st.isS ⟨#[60]⟩
   ·rw[hb] at HI2
    have HF2:Hd (sgFind st 3 0 (sgL 3)=sgFind st 3 3 ((sgL 3).drop 3)):=(zu hF).trans (by show (if st.isS ⟨#[60]⟩ then _ else _)=_;rw[hb];rfl)
    clear hb hF
    go_wp2_with (go_at_call 63;refine Calls.mono (zu HI2) ?_;rintro e w1 ⟨rfl,hw⟩;have X1:=zh ((zu hX).trans hw);clear hw)
    go_roundw
    case rel=>exact⟨3,by go_num,by omega,HF2,X1⟩
    case measure=>simp[intOf]
   ·rw[hb] at HI2
    have HF2:opN (st.oper 3)=8:=by
     rw[zu HOp,zu hF];show opN (if st.isS ⟨#[60]⟩ then _ else _)=_
     rw[hb];rfl
    have HF2:=zh HF2;clear hb hF
    go_wp2_with (go_at_call 63;refine Calls.mono (zu HI2) ?_;rintro e w1 ⟨rfl,hw⟩;have X1:=zh ((zu X0).trans hw);clear hw)
    go_ret;exact⟨by rw[zu HF2];first | rfl | simp,zu X1⟩
  ·have ck:=zr (zu R1) 3 (v:=.string ⟨#[60,61]⟩) rfl
   have HI3:=zh (zu HI ⟨#[60,61]⟩ (by decide +kernel) _ (zu X0));cases hb:st.isS ⟨#[60,61]⟩
   ·rw[hb] at HI3
    have HF2:Hd (sgFind st 3 0 (sgL 3)=sgFind st 3 4 ((sgL 3).drop 4)):=(zu hF).trans (by show (if st.isS ⟨#[60,61]⟩ then _ else _)=_;rw[hb];rfl)
    clear hb hF
    go_wp2_with (go_at_call 63;refine Calls.mono (zu HI3) ?_;rintro e w1 ⟨rfl,hw⟩;have X1:=zh ((zu hX).trans hw);clear hw)
    go_roundw
    case rel=>exact⟨4,by go_num,by omega,HF2,X1⟩
    case measure=>simp[intOf]
   ·rw[hb] at HI3
    have HF2:opN (st.oper 3)=9:=by
     rw[zu HOp,zu hF];show opN (if st.isS ⟨#[60,61]⟩ then _ else _)=_
     rw[hb];rfl
    have HF2:=zh HF2;clear hb hF
    go_wp2_with (go_at_call 63;refine Calls.mono (zu HI3) ?_;rintro e w1 ⟨rfl,hw⟩;have X1:=zh ((zu X0).trans hw);clear hw)
    go_ret;exact⟨by rw[zu HF2];first | rfl | simp,zu X1⟩
  ·have ck:=zr (zu R1) 4 (v:=.string ⟨#[62]⟩) rfl
   have HI4:=zh (zu HI ⟨#[62]⟩ (by decide +kernel) _ (zu X0));cases hb:st.isS ⟨#[62]⟩
   ·rw[hb] at HI4
    have HF2:Hd (sgFind st 3 0 (sgL 3)=sgFind st 3 5 ((sgL 3).drop 5)):=(zu hF).trans (by show (if st.isS ⟨#[62]⟩ then _ else _)=_;rw[hb];rfl)
    clear hb hF
    go_wp2_with (go_at_call 63;refine Calls.mono (zu HI4) ?_;rintro e w1 ⟨rfl,hw⟩;have X1:=zh ((zu hX).trans hw);clear hw)
    go_roundw
    case rel=>exact⟨5,by go_num,by omega,HF2,X1⟩
    case measure=>simp[intOf]
   ·rw[hb] at HI4
    have HF2:opN (st.oper 3)=10:=by
     rw[zu HOp,zu hF];show opN (if st.isS ⟨#[62]⟩ then _ else _)=_
     rw[hb];rfl
    have HF2:=zh HF2;clear hb hF
    go_wp2_with (go_at_call 63;refine Calls.mono (zu HI4) ?_;rintro e w1 ⟨rfl,hw⟩;have X1:=zh ((zu X0).trans hw);clear hw)
    go_ret;exact⟨by rw[zu HF2];first | rfl | simp,zu X1⟩
  ·have ck:=zr (zu R1) 5 (v:=.string ⟨#[62,61]⟩) rfl
   have HI5:=zh (zu HI ⟨#[62,61]⟩ (by decide +kernel) _ (zu X0));cases hb:st.isS ⟨#[62,61]⟩
   ·rw[hb] at HI5
    have HF2:Hd (sgFind st 3 0 (sgL 3)=sgFind st 3 6 ((sgL 3).drop 6)):=(zu hF).trans (by show (if st.isS ⟨#[62,61]⟩ then _ else _)=_;rw[hb];rfl)
    clear hb hF
    go_wp2_with (go_at_call 63;refine Calls.mono (zu HI5) ?_;rintro e w1 ⟨rfl,hw⟩;have X1:=zh ((zu hX).trans hw);clear hw)
    go_roundw
    case rel=>exact⟨6,by go_num,by omega,HF2,X1⟩
    case measure=>simp[intOf]
   ·rw[hb] at HI5
    have HF2:opN (st.oper 3)=11:=by
     rw[zu HOp,zu hF];show opN (if st.isS ⟨#[62,61]⟩ then _ else _)=_
     rw[hb];rfl
    have HF2:=zh HF2;clear hb hF
    go_wp2_with (go_at_call 63;refine Calls.mono (zu HI5) ?_;rintro e w1 ⟨rfl,hw⟩;have X1:=zh ((zu X0).trans hw);clear hw)
    go_ret;exact⟨by rw[zu HF2];first | rfl | simp,zu X1⟩
  ·have HF2:opN (st.oper 3)=0:=by rw[zu HOp,zu hF];rfl
   have HF2:=zh HF2;clear hF
   go_wp2_with fail
   go_ret;exact⟨by rw[zu HF2];first | rfl | simp,zu X0⟩
end
section
variable {w w':World} {g len:Nat} {T:List Tk} {wd:Int} {st:PS}
theorem lev3_r (f:Nat) (sb:Rdr) (hgs:GoodR sb) (hss:Shorter sb) (hf:st.ts.length < f) (hsub:∀ s:PS,s.ts.length≤st.ts.length→RIs g len T wd 4 sb s) (h:Rp w g len T wd st):Calls Tryz.prog 97 #[.pointer (some ⟨g,0,none⟩),.int .i64 3] w (RNode w g len T wd (cmpP sb st)):=by
 by_cases h0:st.e=0
 case neg=>exact expr_bad_r h h0 3 (cmpP sb) (cmp_kp hgs)
 have hg:=h.lt;have hl0:=hss st;have HSH:=zh hss;have HS0:=zh (hsub st (Nat.le_refl _));have HS:=zh hsub;obtain⟨R,hRR⟩:∃ R,R=loopP 3 sb f (sb st).1 (sb st).2:=⟨_,rfl⟩;obtain⟨RC,hRC⟩:∃ RC,RC=cmpP sb st:=⟨_,rfl⟩;rw[← hRC];have HRC:=zh hRC;have HRR:=zh hRR;obtain⟨V,i,pl,dp,h1,-⟩:=h.ex;rw[h0] at h1;obtain⟨c0,c1,c2,c3,c4,c5,c6,zf⟩:=rp_c h1;have H:=zh h;unfold RIs at HS0;clear h1 h h0 hsub hss hRR hRC
 go_enter Tryz.func97,Tryz.ntmps97
 go_wp2_with (go_at_call 97;refine Calls.mono (zu HS0 _ ((zu H).ext (Ext.alloc _ _))) ?_;rintro e w2 ⟨v,p,rfl,hr,hp,hs,hw⟩;obtain⟨pk,po,ps,pn,pl2⟩:=p;rw[RepN] at hr;obtain⟨a,cap,rfl,hcap,hl⟩:=hr;have S2:=zh hs;have L2:=zh hl;have P2:=zh hp;have X2:=zh hw;clear hw hs hl hp)
 have LI:Hd (RvI 3 sb g len T wd w (w2.alloc (nodO pk po ps pn (.slice a pl2.length cap))) R w2.heap.size pk po ps pn pl2 a cap (sb st).1 (sb st).2 f):=by
  have RB:=(zu X2).row (Go.heap_alloc_new w (nodO 0 0 zE 0 (.slice none 0 0))) (by omega);have hlt1:w.heap.size < w2.heap.size:=(Array.getElem?_eq_some_iff.1 RB).1;refine⟨zu HRR,zu P2,by omega,(Ext.alloc _ _).row RB,Go.heap_alloc_new w2 _,hcap,?_,hlt1,hg,(zu S2).ext (Ext.alloc _ _),((Gr.of (Ext.alloc _ _)).trans (zu X2)).alloc _⟩;refine RepNL.to (fun b hb=>⟨⟨?fa,?fb,?fc⟩,?fe⟩) _ _ (zu L2)
  case fa=>have:=hb.1;rw[size_alloc] at this;omega
  case fb=>have:=hb.2;rw[size_alloc];omega
  case fc=>have:=hb.2;omega
  case fe=>exact(Ext.alloc w2 _).block b (by have:=hb.2;omega)
 have hl00:(sb st).2.ts.length≤st.ts.length:=hl0;generalize w2.heap.size=b3 at LI ⊢;refine gen_world (F:=fun W=>Code.wp _ _ _ _ W) ?_;intro WA hWA;rw[← hWA] at LI;clear hWA S2 L2 P2 X2 HRR hl0 hcap c0 c1 c2 c3 c4 c5 c6 zf HS0 H
 go_loopw [8] (fun t8 wr => ∃ (k o:Int) (s:ByteArray) (n:Int) (l:List PN) (a:Option Addr) (cap:Nat) (pp:PN) (stc:PS) (j:Nat),Hd (RvI 3 sb g len T wd w wr R b3 k o s n l a cap pp stc j)∧stc.ts.length≤st.ts.length∧Hd ((pp,stc)=sb st)) (fun _ wr=>rleft g T.length wr)
 case atStart=>exact⟨_,_,_,_,_,_,_,_,_,_,LI,hl00,rfl⟩
 case round =>
  clear LI;obtain⟨k,o,s,n,l,a,cap,pp,stc,j,hI,hle,hPS⟩:=hrel;have hJ:=zu hI;have p0:=zr hJ.r3 0 rfl;have p1:=zr hJ.r3 1 rfl;have p2:=zr hJ.r3 2 rfl;have p3:=zr hJ.r3 3 rfl;have p4:=zr hJ.r3 4 rfl;have pz:=rowF hJ.r3;have h3:=hJ.h3;have hb3:b3 < wr.heap.size:=(Array.getElem?_eq_some_iff.1 hJ.r3).1;obtain⟨V,i,pl,dp,hrow,-⟩:=hJ.rs.ex;have HRow:=zh hrow;by_cases h0:stc.e=0
  ·rw[h0] at hrow
   obtain⟨c0,c1,c2,c3,c4,c5,c6,zf⟩:=rp_c hrow;have HIs:=zh (opOf_3 hJ.rs h0);clear hJ hrow;cases hb:stc.oper 3
   ·rw[hb] at HIs
    have hto:stc.takeO 3=(none,stc):=takeO_none hb;have HIs:Hd (Calls Tryz.prog 119 #[.pointer (some ⟨g,0,none⟩),.int .i64 3] wr fun e w'=>e = .returned (.int .i64 0)∧Ext wr w'):=HIs;have hRs:RC=(pp,stc):=by
     rw[zu HRC];unfold cmpP;rw[← zu hPS];simp only;rw[hto]
    clear hb
    go_wp2_with (go_at_call 119;refine Calls.mono (zu HIs) ?_;rintro e w1 ⟨rfl,hw⟩;have I1:=zh ((zu hI).ext hw);have p0:=zr (zu I1).r3 0 rfl;have p1:=zr (zu I1).r3 1 rfl;have p2:=zr (zu I1).r3 2 rfl;have p3:=zr (zu I1).r3 3 rfl;have p4:=zr (zu I1).r3 4 rfl;have pz:=rowF (zu I1).r3;have r0:=zr (zu I1).r2 0 rfl;have r1:=zr (zu I1).r2 1 rfl;have r2:=zr (zu I1).r2 2 rfl;have r3:=zr (zu I1).r2 3 rfl;have r4:=zr (zu I1).r2 4 rfl;have rz:=rowF (zu I1).r2;clear hw)
    rw[hRs];exact bodyPost_ret (v:=nodV k o s n (.slice a l.length cap)) (by simp[results,Tryz.results97,go_sem,r0,r1,r2,r3,r4]) rfl (rnode_end (r:=(pp,stc)) hg (zu I1).rs (zu I1).gr (zu I1).hc (RepNL.to (fun b hb=>⟨⟨hb.1,hb.2.1⟩,rfl⟩) _ _ (zu I1).rep) (k:=k) (o:=o) (n:=n) (s:=s) (fun e=>(zu hI).np e))
   ·rename_i z
    rw[hb] at HIs;have hop:stc.oper 3=some z:=hb;have hz:=sg_some 3 (by omega) hop;have hzk:z.k=11:=hz.1;have hz1:1≤z.o:=hz.2.1;have hz2:z.o≤20:=hz.2.2;have hz0:(z.o == 0)=false:=by simp;omega
    have HIs:Hd (Calls Tryz.prog 119 #[.pointer (some ⟨g,0,none⟩),.int .i64 3] wr fun e w'=>e = .returned (.int .i64 z.o)∧Ext wr w'):=HIs;clear hz;have hlt:=oper_ne hop;obtain⟨i2,ci,hi2,hstep⟩:=(zu hI).rs.step h0 (by intro e;rw[e] at hlt;exact absurd hlt (Nat.not_lt_zero _));obtain rfl:i=i2:=by
     rw[c1] at ci;injection ci with ci;injection ci with _ ci;omega
    have HStep:=zh hstep;have HOp:=zh hop;clear hstep hb ci hop
    go_wp2_with (go_at_call 119;refine Calls.mono (zu HIs) ?_;rintro e w1 ⟨rfl,hw⟩;have X1:=zh hw;have c1:=hw.cell c1;have zf:=rowF (hw.row (zu HRow));have p0:=zr (hw.row (zu hI).r3) 0 rfl;have p1:=zr (hw.row (zu hI).r3) 1 rfl;have p2:=zr (hw.row (zu hI).r3) 2 rfl;have p3:=zr (hw.row (zu hI).r3) 3 rfl;have p4:=zr (hw.row (zu hI).r3) 4 rfl;have pz:=rowF (hw.row (zu hI).r3);clear hw)
    obtain⟨W1,hW1⟩:∃ W1,W1=w1.setCell ⟨g,1,none⟩ (.int .i64 ((i:Int)+1)):=⟨_,rfl⟩;rw[← hW1];have hsz1:W1.heap.size=w1.heap.size:=by rw[hW1];simp[World.setCell]
    have hS1:Rp W1 g len T wd stc.next:=by rw[hW1];exact zu HStep w1 (Gr.of (zu X1)) ((zu X1).block g (by omega))
    have hG1:Gr g wr W1:=by rw[hW1];exact(Gr.of (zu X1)).set (p:=⟨g,_,none⟩) (Or.inr rfl) _
    have R3:=zh (hG1.row (zu hI).r3 (by omega));have S1:=zh hS1;have G1:=zh hG1;clear p0 p1 p2 p3 p4 pz hW1 hS1 hG1 c1 zf;have p0:=zr (zu R3) 0 rfl;have p1:=zr (zu R3) 1 rfl;have p2:=zr (zu R3) 2 rfl;have p3:=zr (zu R3) 3 rfl;have p4:=zr (zu R3) 4 rfl;have pz:=rowF (zu R3);have D1:Hd (Rp W1.drew g len T wd stc.next):=(zu S1).ext (Ext.drew (Ext.refl _));have hbW:b3 < W1.heap.size:=(Array.getElem?_eq_some_iff.1 (zu R3)).1;have HXs:=zh (zu HS stc.next (by have:=next_le stc;omega));unfold RIs at HXs
    go_wp2_with fail
    go_region_law (first
     | (refine step_call_two rfl 97 (.tmp 98) (.tmp 100) 65 3 rfl _ _ (by simp[Act.eval,Act.put]) (by first | (simp[Act.eval,Act.put];done) | (simp[Act.eval,Act.put];rfl)) (enterRExpr _ _ _) (Calls.mono (zu HXs _ (zu D1)) ?_);rintro e w3 ⟨v,p2,rfl,hr,hp,hs,hw⟩;obtain⟨k2,o2,s2,n2,l2⟩:=p2;rw[RepN] at hr;obtain⟨a2,cap2,rfl,hcap2,hl3⟩:=hr;have RE:=zh (hw.row (zu R3) (by omega));have p0:=zr (zu RE) 0 rfl;have p1:=zr (zu RE) 1 rfl;have p2:=zr (zu RE) 2 rfl;have p3:=zr (zu RE) 3 rfl;have p4:=zr (zu RE) 4 rfl;have pz:=rowF (zu RE);have S3:=zh hs;have P3:=zh hp;have L3:=zh hl3;have X3:=zh hw;have hb43:b3 < w3.heap.size:=Nat.lt_of_lt_of_le hbW hw.size;clear hw hs hl3 hp;refine⟨_,rfl,?_⟩))
    all_goals
     have LM:=RvI.of (zu hI) h0 (zu HOp) (zu HSH) (zu G1) (Gr.drew_of (zu X3)) (zu S3) (zu P3) hcap2 (zu L3) (Ext.alloc w3 _) (Go.heap_alloc_new w3 (.cells #[.int .i64 k,.int .i64 o,.string s,.int .i64 n,.slice a l.length cap,.int .i64 k2,.int .i64 o2,.string s2,.int .i64 n2,.slice a2 l2.length cap2] 46));rw[hzk] at LM;refine gen_world (F:=fun W5=>Exit.then _ _ Exit.normal _ W5) ?_;intro W5 hW5;replace hW5:W5=set5 (w3.alloc (.cells #[.int .i64 k,.int .i64 o,.string s,.int .i64 n,.slice a l.length cap,.int .i64 k2,.int .i64 o2,.string s2,.int .i64 n2,.slice a2 l2.length cap2] 46)) b3 11 z.o zE 0 (.slice (some ⟨w3.heap.size,0,none⟩) 2 2):=hW5.trans (set5_alloc hb43 _ _ _ _ _ _);rw[← hW5] at LM;have M:=zh LM;have hm0:=rleft_eq (zu hI).rs;have hm1:=rleft_eq LM.rs;have hl2:=zu HSH stc.next
     clear LM hW5 S3 L3 X3 P3 RE R3 S1 G1 D1;have p0:=zr (zu M).r3 0 rfl;have p1:=zr (zu M).r3 1 rfl;have p2:=zr (zu M).r3 2 rfl;have p3:=zr (zu M).r3 3 rfl;have p4:=zr (zu M).r3 4 rfl;have pz:=rowF (zu M).r3;have r0:=zr (zu M).r2 0 rfl;have r1:=zr (zu M).r2 1 rfl;have r2:=zr (zu M).r2 2 rfl;have r3:=zr (zu M).r2 3 rfl;have r4:=zr (zu M).r2 4 rfl;have rz:=rowF (zu M).r2
     go_wp2_with fail
     have hRs:RC=(z.node [pp,(sb stc.next).1],(sb stc.next).2):=by
      rw[zu HRC];unfold cmpP;rw[← zu hPS];simp only;rw[takeO_some (zu HOp)]
     rw[hRs];have hnp:=(zu M).np;exact bodyPost_ret (v:=nodV 11 z.o zE 0 (.slice (some ⟨w3.heap.size,0,none⟩) 2 2)) (by simp[results,Tryz.results97,go_sem,r0,r1,r2,r3,r4]) rfl (rnode_end (l:=[⟨k,o,s,n,l⟩,⟨k2,o2,s2,n2,l2⟩]) (r:=(z.node [pp,(sb stc.next).1],(sb stc.next).2)) hg (zu M).rs (zu M).gr (Nat.le_refl _) (RepNL.to (fun b hb=>⟨⟨hb.1,hb.2.1⟩,rfl⟩) _ _ (zu M).rep) (fun e=>hnp e))
  ·have he2:(stc.e == 0)=false:=by simpa using h0
   obtain⟨c0,c1,c2,c3,c4,c5,c6,zf⟩:=rp_c hrow;have hto:stc.takeO 3=(none,stc):=takeO_nil (hJ.rs.nv.nil h0) _;have HE0:=zh h0;have hRs:RC=(pp,stc):=by
    rw[zu HRC];unfold cmpP;rw[← zu hPS];simp only;rw[hto]
   have r0:=zr hJ.r2 0 rfl;have r1:=zr hJ.r2 1 rfl;have r2:=zr hJ.r2 2 rfl;have r3:=zr hJ.r2 3 rfl;have r4:=zr hJ.r2 4 rfl;have rz:=rowF hJ.r2;clear hJ hrow h0 hto
   go_wp2_with fail
   rw[hRs];exact bodyPost_ret (v:=nodV k o s n (.slice a l.length cap)) (by simp[results,Tryz.results97,go_sem,r0,r1,r2,r3,r4]) rfl (rnode_end (r:=(pp,stc)) hg (zu hI).rs (zu hI).gr (zu hI).hc (RepNL.to (fun b hb=>⟨⟨hb.1,hb.2.1⟩,rfl⟩) _ _ (zu hI).rep) (k:=k) (o:=o) (n:=n) (s:=s) (fun e=>absurd e (zu HE0)))
end
section
variable {w w':World} {g len:Nat} {T:List Tk} {wd:Int} {st:PS}
theorem opOf_4 (h:Rp w g len T wd st) (h0:st.e=0):Calls Tryz.prog 119 #[.pointer (some ⟨g,0,none⟩),.int .i64 4] w fun e w'=>e = .returned (.int .i64 (opN (st.oper 4)))∧Ext w w':=by
 have HI:=zh (fun (s:ByteArray) (hs:wordL s.toList=false) (W:World) (x:Ext w W)=>isA_S h h0 hs ▸ is_r (h.ext x) h0 s);have hop:st.oper 4=sgFind st 4 0 (sgL 4):=oper_sg st 4 (by omega);have HOp:=zh hop;obtain⟨W0,hW0⟩:∃ W0,W0=((w.alloc (.cells #[] 9)).alloc (.cells #[.string ⟨#[43]⟩,.string ⟨#[45]⟩] 9)):=⟨_,rfl⟩;have hrow:W0.heap[w.heap.size+1]? = some (.cells #[.string ⟨#[43]⟩,.string ⟨#[45]⟩] 9 (0,0)):=by
  have:=Go.heap_alloc_new (w.alloc (.cells #[] 9)) (.cells #[.string ⟨#[43]⟩,.string ⟨#[45]⟩] 9);rw[size_alloc] at this;rw[hW0];exact this
 have hx0:Ext w W0:=by rw[hW0];exact(Ext.alloc _ _).trans (Ext.alloc _ _)
 have HRow:=zh hrow;have HX0:=zh hx0;clear hrow hx0 hop h
 go_enter Tryz.func119,Tryz.ntmps119
 go_wp2_with fail
 rw[← hW0];clear hW0
 go_loopw [7] (fun t wr => ∃ (j:Nat),t = .int .i64 j∧j≤2∧Hd (sgFind st 4 0 (sgL 4)=sgFind st 4 j ((sgL 4).drop j))∧Hd (Ext W0 wr)) (fun t _ => 2 - (intOf t).toNat)
 case atStart=>exact⟨0,rfl,by omega,rfl,Ext.refl _⟩
 case round =>
  obtain⟨j,rfl,hj,hF,hX⟩:=hrel;have R1:=zh ((zu hX).row (zu HRow));have X0:=zh ((zu HX0).trans (zu hX));rcases (show j=0∨j=1∨j=2 by omega) with rfl | rfl | rfl
  ·have ck:=zr (zu R1) 0 (v:=.string ⟨#[43]⟩) rfl
   have HI0:=zh (zu HI ⟨#[43]⟩ (by decide +kernel) _ (zu X0));cases hb:st.isS ⟨#[43]⟩
   ·rw[hb] at HI0
    have HF2:Hd (sgFind st 4 0 (sgL 4)=sgFind st 4 1 ((sgL 4).drop 1)):=(zu hF).trans (by show (if st.isS ⟨#[43]⟩ then _ else _)=_;rw[hb];rfl)
    clear hb hF
    go_wp2_with (go_at_call 63;refine Calls.mono (zu HI0) ?_;rintro e w1 ⟨rfl,hw⟩;have X1:=zh ((zu hX).trans hw);clear hw)
    go_roundw
    case rel=>exact⟨1,by go_num,by omega,HF2,X1⟩
    case measure=>simp[intOf]
   ·rw[hb] at HI0
    have HF2:opN (st.oper 4)=1:=by
     rw[zu HOp,zu hF];show opN (if st.isS ⟨#[43]⟩ then _ else _)=_
     rw[hb];rfl
    have HF2:=zh HF2;clear hb hF
    go_wp2_with (go_at_call 63;refine Calls.mono (zu HI0) ?_;rintro e w1 ⟨rfl,hw⟩;have X1:=zh ((zu X0).trans hw);clear hw)
    go_ret;exact⟨by rw[zu HF2];first | rfl | simp,zu X1⟩
  ·have ck:=zr (zu R1) 1 (v:=.string ⟨#[45]⟩) rfl
   have HI1:=zh (zu HI ⟨#[45]⟩ (by decide +kernel) _ (zu X0));cases hb:st.isS ⟨#[45]⟩
   ·rw[hb] at HI1
    have HF2:Hd (sgFind st 4 0 (sgL 4)=sgFind st 4 2 ((sgL 4).drop 2)):=(zu hF).trans (by show (if st.isS ⟨#[45]⟩ then _ else _)=_;rw[hb];rfl)
    clear hb hF
    go_wp2_with (go_at_call 63;refine Calls.mono (zu HI1) ?_;rintro e w1 ⟨rfl,hw⟩;have X1:=zh ((zu hX).trans hw);clear hw)
    go_roundw
    case rel=>exact⟨2,by go_num,by omega,HF2,X1⟩
    case measure=>simp[intOf]
   ·rw[hb] at HI1
    have HF2:opN (st.oper 4)=2:=by
     rw[zu HOp,zu hF];show opN (if st.isS ⟨#[45]⟩ then _ else _)=_
     rw[hb];rfl
    have HF2:=zh HF2;clear hb hF
    go_wp2_with (go_at_call 63;refine Calls.mono (zu HI1) ?_;rintro e w1 ⟨rfl,hw⟩;have X1:=zh ((zu X0).trans hw);clear hw)
    go_ret;exact⟨by rw[zu HF2];first | rfl | simp,zu X1⟩
  ·have HF2:opN (st.oper 4)=0:=by rw[zu HOp,zu hF];rfl
   have HF2:=zh HF2;clear hF
   go_wp2_with fail
   go_ret;exact⟨by rw[zu HF2];first | rfl | simp,zu X0⟩
end
section
variable {w w':World} {g len:Nat} {T:List Tk} {wd:Int} {st:PS}
theorem lev4_r (f:Nat) (sb:Rdr) (hgs:GoodR sb) (hss:Shorter sb) (hf:st.ts.length < f) (hsub:∀ s:PS,s.ts.length≤st.ts.length→RIs g len T wd 5 sb s) (h:Rp w g len T wd st):Calls Tryz.prog 97 #[.pointer (some ⟨g,0,none⟩),.int .i64 4] w (RNode w g len T wd (levP 4 sb f st)):=by
 by_cases h0:st.e=0
 case neg=>exact expr_bad_r h h0 4 (levP 4 sb f) (lev_kp hgs f)
 have hg:=h.lt;have hl0:=hss st;have HSH:=zh hss;have HS0:=zh (hsub st (Nat.le_refl _));have HS:=zh hsub;unfold levP;obtain⟨R,hRR⟩:∃ R,R=loopP 4 sb f (sb st).1 (sb st).2:=⟨_,rfl⟩;rw[← hRR];have HRR:=zh hRR;obtain⟨V,i,pl,dp,h1,-⟩:=h.ex;rw[h0] at h1;obtain⟨c0,c1,c2,c3,c4,c5,c6,zf⟩:=rp_c h1;have H:=zh h;unfold RIs at HS0;clear h1 h h0 hsub hss hRR
 go_enter Tryz.func97,Tryz.ntmps97
 go_wp2_with (go_at_call 97;refine Calls.mono (zu HS0 _ ((zu H).ext (Ext.alloc _ _))) ?_;rintro e w2 ⟨v,p,rfl,hr,hp,hs,hw⟩;obtain⟨pk,po,ps,pn,pl2⟩:=p;rw[RepN] at hr;obtain⟨a,cap,rfl,hcap,hl⟩:=hr;have S2:=zh hs;have L2:=zh hl;have P2:=zh hp;have X2:=zh hw;clear hw hs hl hp)
 have LI:Hd (RvI 4 sb g len T wd w (w2.alloc (nodO pk po ps pn (.slice a pl2.length cap))) R w2.heap.size pk po ps pn pl2 a cap (sb st).1 (sb st).2 f):=by
  have RB:=(zu X2).row (Go.heap_alloc_new w (nodO 0 0 zE 0 (.slice none 0 0))) (by omega);have hlt1:w.heap.size < w2.heap.size:=(Array.getElem?_eq_some_iff.1 RB).1;refine⟨zu HRR,zu P2,by omega,(Ext.alloc _ _).row RB,Go.heap_alloc_new w2 _,hcap,?_,hlt1,hg,(zu S2).ext (Ext.alloc _ _),((Gr.of (Ext.alloc _ _)).trans (zu X2)).alloc _⟩;refine RepNL.to (fun b hb=>⟨⟨?fa,?fb,?fc⟩,?fe⟩) _ _ (zu L2)
  case fa=>have:=hb.1;rw[size_alloc] at this;omega
  case fb=>have:=hb.2;rw[size_alloc];omega
  case fc=>have:=hb.2;omega
  case fe=>exact(Ext.alloc w2 _).block b (by have:=hb.2;omega)
 have hl00:(sb st).2.ts.length≤st.ts.length:=hl0;generalize w2.heap.size=b3 at LI ⊢;refine gen_world (F:=fun W=>Code.wp _ _ _ _ W) ?_;intro WA hWA;rw[← hWA] at LI;clear hWA S2 L2 P2 X2 HRR hl0 hcap c0 c1 c2 c3 c4 c5 c6 zf HS0 H
 go_loopw [8] (fun t8 wr => ∃ (k o:Int) (s:ByteArray) (n:Int) (l:List PN) (a:Option Addr) (cap:Nat) (pp:PN) (stc:PS) (j:Nat),Hd (RvI 4 sb g len T wd w wr R b3 k o s n l a cap pp stc j)∧stc.ts.length≤st.ts.length) (fun _ wr=>rleft g T.length wr)
 case atStart=>exact⟨_,_,_,_,_,_,_,_,_,_,LI,hl00⟩
 case round =>
  clear LI;obtain⟨k,o,s,n,l,a,cap,pp,stc,j,hI,hle⟩:=hrel;have hJ:=zu hI;have p0:=zr hJ.r3 0 rfl;have p1:=zr hJ.r3 1 rfl;have p2:=zr hJ.r3 2 rfl;have p3:=zr hJ.r3 3 rfl;have p4:=zr hJ.r3 4 rfl;have pz:=rowF hJ.r3;have h3:=hJ.h3;have hb3:b3 < wr.heap.size:=(Array.getElem?_eq_some_iff.1 hJ.r3).1;obtain⟨V,i,pl,dp,hrow,-⟩:=hJ.rs.ex;have HRow:=zh hrow;by_cases h0:stc.e=0
  ·rw[h0] at hrow
   obtain⟨c0,c1,c2,c3,c4,c5,c6,zf⟩:=rp_c hrow;have HIs:=zh (opOf_4 hJ.rs h0);clear hJ hrow;cases hb:stc.oper 4
   ·rw[hb] at HIs
    have hto:stc.takeO 4=(none,stc):=takeO_none hb;have HIs:Hd (Calls Tryz.prog 119 #[.pointer (some ⟨g,0,none⟩),.int .i64 4] wr fun e w'=>e = .returned (.int .i64 0)∧Ext wr w'):=HIs;have hRs:R=(pp,stc):=(zu hI).stop (hto);clear hb
    go_wp2_with (go_at_call 119;refine Calls.mono (zu HIs) ?_;rintro e w1 ⟨rfl,hw⟩;have I1:=zh ((zu hI).ext hw);have p0:=zr (zu I1).r3 0 rfl;have p1:=zr (zu I1).r3 1 rfl;have p2:=zr (zu I1).r3 2 rfl;have p3:=zr (zu I1).r3 3 rfl;have p4:=zr (zu I1).r3 4 rfl;have pz:=rowF (zu I1).r3;have r0:=zr (zu I1).r2 0 rfl;have r1:=zr (zu I1).r2 1 rfl;have r2:=zr (zu I1).r2 2 rfl;have r3:=zr (zu I1).r2 3 rfl;have r4:=zr (zu I1).r2 4 rfl;have rz:=rowF (zu I1).r2;clear hw)
    rw[hRs];exact bodyPost_ret (v:=nodV k o s n (.slice a l.length cap)) (by simp[results,Tryz.results97,go_sem,r0,r1,r2,r3,r4]) rfl (rnode_end (r:=(pp,stc)) hg (zu I1).rs (zu I1).gr (zu I1).hc (RepNL.to (fun b hb=>⟨⟨hb.1,hb.2.1⟩,rfl⟩) _ _ (zu I1).rep) (k:=k) (o:=o) (n:=n) (s:=s) (fun e=>(zu hI).np e))
   ·rename_i z
    rw[hb] at HIs;have hop:stc.oper 4=some z:=hb;have hz:=sg_some 4 (by omega) hop;have hzk:z.k=11:=hz.1;have hz1:1≤z.o:=hz.2.1;have hz2:z.o≤20:=hz.2.2;have hz0:(z.o == 0)=false:=by simp;omega
    have HIs:Hd (Calls Tryz.prog 119 #[.pointer (some ⟨g,0,none⟩),.int .i64 4] wr fun e w'=>e = .returned (.int .i64 z.o)∧Ext wr w'):=HIs;clear hz;have hlt:=oper_ne hop;obtain⟨i2,ci,hi2,hstep⟩:=(zu hI).rs.step h0 (by intro e;rw[e] at hlt;exact absurd hlt (Nat.not_lt_zero _));obtain rfl:i=i2:=by
     rw[c1] at ci;injection ci with ci;injection ci with _ ci;omega
    have HStep:=zh hstep;have HOp:=zh hop;clear hstep hb ci hop
    go_wp2_with (go_at_call 119;refine Calls.mono (zu HIs) ?_;rintro e w1 ⟨rfl,hw⟩;have X1:=zh hw;have c1:=hw.cell c1;have zf:=rowF (hw.row (zu HRow));have p0:=zr (hw.row (zu hI).r3) 0 rfl;have p1:=zr (hw.row (zu hI).r3) 1 rfl;have p2:=zr (hw.row (zu hI).r3) 2 rfl;have p3:=zr (hw.row (zu hI).r3) 3 rfl;have p4:=zr (hw.row (zu hI).r3) 4 rfl;have pz:=rowF (hw.row (zu hI).r3);clear hw)
    obtain⟨W1,hW1⟩:∃ W1,W1=w1.setCell ⟨g,1,none⟩ (.int .i64 ((i:Int)+1)):=⟨_,rfl⟩;rw[← hW1];have hsz1:W1.heap.size=w1.heap.size:=by rw[hW1];simp[World.setCell]
    have hS1:Rp W1 g len T wd stc.next:=by rw[hW1];exact zu HStep w1 (Gr.of (zu X1)) ((zu X1).block g (by omega))
    have hG1:Gr g wr W1:=by rw[hW1];exact(Gr.of (zu X1)).set (p:=⟨g,_,none⟩) (Or.inr rfl) _
    have R3:=zh (hG1.row (zu hI).r3 (by omega));have S1:=zh hS1;have G1:=zh hG1;clear p0 p1 p2 p3 p4 pz hW1 hS1 hG1 c1 zf;have p0:=zr (zu R3) 0 rfl;have p1:=zr (zu R3) 1 rfl;have p2:=zr (zu R3) 2 rfl;have p3:=zr (zu R3) 3 rfl;have p4:=zr (zu R3) 4 rfl;have pz:=rowF (zu R3);have D1:Hd (Rp W1.drew g len T wd stc.next):=(zu S1).ext (Ext.drew (Ext.refl _));have hbW:b3 < W1.heap.size:=(Array.getElem?_eq_some_iff.1 (zu R3)).1;have HXs:=zh (zu HS stc.next (by have:=next_le stc;omega));unfold RIs at HXs
    go_wp2_with fail
    go_region_law (first
     | (refine step_call_two rfl 97 (.tmp 98) (.tmp 100) 65 3 rfl _ _ (by simp[Act.eval,Act.put]) (by first | (simp[Act.eval,Act.put];done) | (simp[Act.eval,Act.put];rfl)) (enterRExpr _ _ _) (Calls.mono (zu HXs _ (zu D1)) ?_);rintro e w3 ⟨v,p2,rfl,hr,hp,hs,hw⟩;obtain⟨k2,o2,s2,n2,l2⟩:=p2;rw[RepN] at hr;obtain⟨a2,cap2,rfl,hcap2,hl3⟩:=hr;have RE:=zh (hw.row (zu R3) (by omega));have p0:=zr (zu RE) 0 rfl;have p1:=zr (zu RE) 1 rfl;have p2:=zr (zu RE) 2 rfl;have p3:=zr (zu RE) 3 rfl;have p4:=zr (zu RE) 4 rfl;have pz:=rowF (zu RE);have S3:=zh hs;have P3:=zh hp;have L3:=zh hl3;have X3:=zh hw;have hb43:b3 < w3.heap.size:=Nat.lt_of_lt_of_le hbW hw.size;clear hw hs hl3 hp;refine⟨_,rfl,?_⟩))
    all_goals
     have LM:=RvI.of (zu hI) h0 (zu HOp) (zu HSH) (zu G1) (Gr.drew_of (zu X3)) (zu S3) (zu P3) hcap2 (zu L3) (Ext.alloc w3 _) (Go.heap_alloc_new w3 (.cells #[.int .i64 k,.int .i64 o,.string s,.int .i64 n,.slice a l.length cap,.int .i64 k2,.int .i64 o2,.string s2,.int .i64 n2,.slice a2 l2.length cap2] 46));rw[hzk] at LM;refine gen_world (F:=fun W5=>Exit.then _ _ Exit.normal _ W5) ?_;intro W5 hW5;replace hW5:W5=set5 (w3.alloc (.cells #[.int .i64 k,.int .i64 o,.string s,.int .i64 n,.slice a l.length cap,.int .i64 k2,.int .i64 o2,.string s2,.int .i64 n2,.slice a2 l2.length cap2] 46)) b3 11 z.o zE 0 (.slice (some ⟨w3.heap.size,0,none⟩) 2 2):=hW5.trans (set5_alloc hb43 _ _ _ _ _ _);rw[← hW5] at LM;have M:=zh LM;have hm0:=rleft_eq (zu hI).rs;have hm1:=rleft_eq LM.rs;have hl2:=zu HSH stc.next
     clear LM hW5 S3 L3 X3 P3 RE R3 S1 G1 D1
     go_wp2_with fail
     go_roundw
     case rel=>exact⟨_,_,_,_,_,_,_,_,_,_,M,by have:=next_le stc;omega⟩
     case measure =>
      rw[hm0,hm1,if_pos h0]
      split <;> omega
  ·have he2:(stc.e == 0)=false:=by simpa using h0
   obtain⟨c0,c1,c2,c3,c4,c5,c6,zf⟩:=rp_c hrow;have hto:stc.takeO 4=(none,stc):=takeO_nil (hJ.rs.nv.nil h0) _;have HE0:=zh h0;have hRs:R=(pp,stc):=(zu hI).stop (hto);have r0:=zr hJ.r2 0 rfl;have r1:=zr hJ.r2 1 rfl;have r2:=zr hJ.r2 2 rfl;have r3:=zr hJ.r2 3 rfl;have r4:=zr hJ.r2 4 rfl;have rz:=rowF hJ.r2;clear hJ hrow h0 hto
   go_wp2_with fail
   rw[hRs];exact bodyPost_ret (v:=nodV k o s n (.slice a l.length cap)) (by simp[results,Tryz.results97,go_sem,r0,r1,r2,r3,r4]) rfl (rnode_end (r:=(pp,stc)) hg (zu hI).rs (zu hI).gr (zu hI).hc (RepNL.to (fun b hb=>⟨⟨hb.1,hb.2.1⟩,rfl⟩) _ _ (zu hI).rep) (k:=k) (o:=o) (n:=n) (s:=s) (fun e=>absurd e (zu HE0)))
end
section
variable {w w':World} {g len:Nat} {T:List Tk} {wd:Int} {st:PS}
theorem opOf_5 (h:Rp w g len T wd st) (h0:st.e=0):Calls Tryz.prog 119 #[.pointer (some ⟨g,0,none⟩),.int .i64 5] w fun e w'=>e = .returned (.int .i64 (opN (st.oper 5)))∧Ext w w':=by
 have HI:=zh (fun (s:ByteArray) (hs:wordL s.toList=false) (W:World) (x:Ext w W)=>isA_S h h0 hs ▸ is_r (h.ext x) h0 s);have hop:st.oper 5=sgFind st 5 0 (sgL 5):=oper_sg st 5 (by omega);have HOp:=zh hop;obtain⟨W0,hW0⟩:∃ W0,W0=((w.alloc (.cells #[] 9)).alloc (.cells #[.string ⟨#[42]⟩,.string ⟨#[47]⟩,.string ⟨#[37]⟩] 9)):=⟨_,rfl⟩;have hrow:W0.heap[w.heap.size+1]? = some (.cells #[.string ⟨#[42]⟩,.string ⟨#[47]⟩,.string ⟨#[37]⟩] 9 (0,0)):=by
  have:=Go.heap_alloc_new (w.alloc (.cells #[] 9)) (.cells #[.string ⟨#[42]⟩,.string ⟨#[47]⟩,.string ⟨#[37]⟩] 9);rw[size_alloc] at this;rw[hW0];exact this
 have hx0:Ext w W0:=by rw[hW0];exact(Ext.alloc _ _).trans (Ext.alloc _ _)
 have HRow:=zh hrow;have HX0:=zh hx0;clear hrow hx0 hop h
 go_enter Tryz.func119,Tryz.ntmps119
 go_wp2_with fail
 rw[← hW0];clear hW0
 go_loopw [7] (fun t wr => ∃ (j:Nat),t = .int .i64 j∧j≤3∧Hd (sgFind st 5 0 (sgL 5)=sgFind st 5 j ((sgL 5).drop j))∧Hd (Ext W0 wr)) (fun t _ => 3 - (intOf t).toNat)
 case atStart=>exact⟨0,rfl,by omega,rfl,Ext.refl _⟩
 case round =>
  obtain⟨j,rfl,hj,hF,hX⟩:=hrel;have R1:=zh ((zu hX).row (zu HRow));have X0:=zh ((zu HX0).trans (zu hX));rcases (show j=0∨j=1∨j=2∨j=3 by omega) with rfl | rfl | rfl | rfl
  ·have ck:=zr (zu R1) 0 (v:=.string ⟨#[42]⟩) rfl
   have HI0:=zh (zu HI ⟨#[42]⟩ (by decide +kernel) _ (zu X0));cases hb:st.isS ⟨#[42]⟩
   ·rw[hb] at HI0
    have HF2:Hd (sgFind st 5 0 (sgL 5)=sgFind st 5 1 ((sgL 5).drop 1)):=(zu hF).trans (by show (if st.isS ⟨#[42]⟩ then _ else _)=_;rw[hb];rfl)
    clear hb hF
    go_wp2_with (go_at_call 63;refine Calls.mono (zu HI0) ?_;rintro e w1 ⟨rfl,hw⟩;have X1:=zh ((zu hX).trans hw);clear hw)
    go_roundw
    case rel=>exact⟨1,by go_num,by omega,HF2,X1⟩
    case measure=>simp[intOf]
   ·rw[hb] at HI0
    have HF2:opN (st.oper 5)=3:=by
     rw[zu HOp,zu hF];show opN (if st.isS ⟨#[42]⟩ then _ else _)=_
     rw[hb];rfl
    have HF2:=zh HF2;clear hb hF
    go_wp2_with (go_at_call 63;refine Calls.mono (zu HI0) ?_;rintro e w1 ⟨rfl,hw⟩;have X1:=zh ((zu X0).trans hw);clear hw)
    go_ret;exact⟨by rw[zu HF2];first | rfl | simp,zu X1⟩
  ·have ck:=zr (zu R1) 1 (v:=.string ⟨#[47]⟩) rfl
   have HI1:=zh (zu HI ⟨#[47]⟩ (by decide +kernel) _ (zu X0));cases hb:st.isS ⟨#[47]⟩
   ·rw[hb] at HI1
    have HF2:Hd (sgFind st 5 0 (sgL 5)=sgFind st 5 2 ((sgL 5).drop 2)):=(zu hF).trans (by show (if st.isS ⟨#[47]⟩ then _ else _)=_;rw[hb];rfl)
    clear hb hF
    go_wp2_with (go_at_call 63;refine Calls.mono (zu HI1) ?_;rintro e w1 ⟨rfl,hw⟩;have X1:=zh ((zu hX).trans hw);clear hw)
    go_roundw
    case rel=>exact⟨2,by go_num,by omega,HF2,X1⟩
    case measure=>simp[intOf]
   ·rw[hb] at HI1
    have HF2:opN (st.oper 5)=4:=by
     rw[zu HOp,zu hF];show opN (if st.isS ⟨#[47]⟩ then _ else _)=_
     rw[hb];rfl
    have HF2:=zh HF2;clear hb hF
    go_wp2_with (go_at_call 63;refine Calls.mono (zu HI1) ?_;rintro e w1 ⟨rfl,hw⟩;have X1:=zh ((zu X0).trans hw);clear hw)
    go_ret;exact⟨by rw[zu HF2];first | rfl | simp,zu X1⟩
  ·have ck:=zr (zu R1) 2 (v:=.string ⟨#[37]⟩) rfl
   have HI2:=zh (zu HI ⟨#[37]⟩ (by decide +kernel) _ (zu X0));cases hb:st.isS ⟨#[37]⟩
   ·rw[hb] at HI2
    have HF2:Hd (sgFind st 5 0 (sgL 5)=sgFind st 5 3 ((sgL 5).drop 3)):=(zu hF).trans (by show (if st.isS ⟨#[37]⟩ then _ else _)=_;rw[hb];rfl)
    clear hb hF
    go_wp2_with (go_at_call 63;refine Calls.mono (zu HI2) ?_;rintro e w1 ⟨rfl,hw⟩;have X1:=zh ((zu hX).trans hw);clear hw)
    go_roundw
    case rel=>exact⟨3,by go_num,by omega,HF2,X1⟩
    case measure=>simp[intOf]
   ·rw[hb] at HI2
    have HF2:opN (st.oper 5)=5:=by
     rw[zu HOp,zu hF];show opN (if st.isS ⟨#[37]⟩ then _ else _)=_
     rw[hb];rfl
    have HF2:=zh HF2;clear hb hF
    go_wp2_with (go_at_call 63;refine Calls.mono (zu HI2) ?_;rintro e w1 ⟨rfl,hw⟩;have X1:=zh ((zu X0).trans hw);clear hw)
    go_ret;exact⟨by rw[zu HF2];first | rfl | simp,zu X1⟩
  ·have HF2:opN (st.oper 5)=0:=by rw[zu HOp,zu hF];rfl
   have HF2:=zh HF2;clear hF
   go_wp2_with fail
   go_ret;exact⟨by rw[zu HF2];first | rfl | simp,zu X0⟩
end
end Go.Proofs.YtjnpehohialmbaaGreat
