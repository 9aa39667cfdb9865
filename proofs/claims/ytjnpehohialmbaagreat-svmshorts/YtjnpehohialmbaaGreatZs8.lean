/- What operators of the level 5 join,in the document's own reader. -/
import Derived.Test.YtjnpehohialmbaaGreatZs7
set_option linter.unusedSimpArgs false
set_option linter.unusedVariables false
set_option maxRecDepth 10000
set_option maxHeartbeats 8000000
namespace Go.Proofs.YtjnpehohialmbaaGreat
open Go.RowKit
section
variable {w w':World} {g len:Nat} {T:List Tk} {wd:Int} {st:PS}
theorem lev5_r (f:Nat) (sb:Rdr) (hgs:GoodR sb) (hss:Shorter sb) (hf:st.ts.length < f) (hsub:∀ s:PS,s.ts.length≤st.ts.length→RIs g len T wd 6 sb s) (h:Rp w g len T wd st):Calls Tryz.prog 97 #[.pointer (some ⟨g,0,none⟩),.int .i64 5] w (RNode w g len T wd (levP 5 sb f st)):=by
 by_cases h0:st.e=0
 case neg=>exact expr_bad_r h h0 5 (levP 5 sb f) (lev_kp hgs f)
 have hg:=h.lt;have hl0:=hss st;have HSH:=zh hss;have HS0:=zh (hsub st (Nat.le_refl _));have HS:=zh hsub;unfold levP;obtain⟨R,hRR⟩:∃ R,R=loopP 5 sb f (sb st).1 (sb st).2:=⟨_,rfl⟩;rw[← hRR];have HRR:=zh hRR;obtain⟨V,i,pl,dp,h1,-⟩:=h.ex;rw[h0] at h1;obtain⟨c0,c1,c2,c3,c4,c5,c6,zf⟩:=rp_c h1;have H:=zh h;unfold RIs at HS0;clear h1 h h0 hsub hss hRR
 go_enter Tryz.func97,Tryz.ntmps97
 go_wp2_with (go_at_call 97;refine Calls.mono (zu HS0 _ ((zu H).ext (Ext.alloc _ _))) ?_;rintro e w2 ⟨v,p,rfl,hr,hp,hs,hw⟩;obtain⟨pk,po,ps,pn,pl2⟩:=p;rw[RepN] at hr;obtain⟨a,cap,rfl,hcap,hl⟩:=hr;have S2:=zh hs;have L2:=zh hl;have P2:=zh hp;have X2:=zh hw;clear hw hs hl hp)
 have LI:Hd (RvI 5 sb g len T wd w (w2.alloc (nodO pk po ps pn (.slice a pl2.length cap))) R w2.heap.size pk po ps pn pl2 a cap (sb st).1 (sb st).2 f):=by
  have RB:=(zu X2).row (Go.heap_alloc_new w (nodO 0 0 zE 0 (.slice none 0 0))) (by omega);have hlt1:w.heap.size < w2.heap.size:=(Array.getElem?_eq_some_iff.1 RB).1;refine⟨zu HRR,zu P2,by omega,(Ext.alloc _ _).row RB,Go.heap_alloc_new w2 _,hcap,?_,hlt1,hg,(zu S2).ext (Ext.alloc _ _),((Gr.of (Ext.alloc _ _)).trans (zu X2)).alloc _⟩;refine RepNL.to (fun b hb=>⟨⟨?fa,?fb,?fc⟩,?fe⟩) _ _ (zu L2)
  case fa=>have:=hb.1;rw[size_alloc] at this;omega
  case fb=>have:=hb.2;rw[size_alloc];omega
  case fc=>have:=hb.2;omega
  case fe=>exact(Ext.alloc w2 _).block b (by have:=hb.2;omega)
 have hl00:(sb st).2.ts.length≤st.ts.length:=hl0;generalize w2.heap.size=b3 at LI ⊢;refine gen_world (F:=fun W=>Code.wp _ _ _ _ W) ?_;intro WA hWA;rw[← hWA] at LI;clear hWA S2 L2 P2 X2 HRR hl0 hcap c0 c1 c2 c3 c4 c5 c6 zf HS0 H
 go_loopw [8] (fun t8 wr => ∃ (k o:Int) (s:ByteArray) (n:Int) (l:List PN) (a:Option Addr) (cap:Nat) (pp:PN) (stc:PS) (j:Nat),Hd (RvI 5 sb g len T wd w wr R b3 k o s n l a cap pp stc j)∧stc.ts.length≤st.ts.length) (fun _ wr=>rleft g T.length wr)
 case atStart=>exact⟨_,_,_,_,_,_,_,_,_,_,LI,hl00⟩
 case round =>
  clear LI;obtain⟨k,o,s,n,l,a,cap,pp,stc,j,hI,hle⟩:=hrel;have hJ:=zu hI;have p0:=zr hJ.r3 0 rfl;have p1:=zr hJ.r3 1 rfl;have p2:=zr hJ.r3 2 rfl;have p3:=zr hJ.r3 3 rfl;have p4:=zr hJ.r3 4 rfl;have pz:=rowF hJ.r3;have h3:=hJ.h3;have hb3:b3 < wr.heap.size:=(Array.getElem?_eq_some_iff.1 hJ.r3).1;obtain⟨V,i,pl,dp,hrow,-⟩:=hJ.rs.ex;have HRow:=zh hrow;by_cases h0:stc.e=0
  ·rw[h0] at hrow
   obtain⟨c0,c1,c2,c3,c4,c5,c6,zf⟩:=rp_c hrow;have HIs:=zh (opOf_5 hJ.rs h0);clear hJ hrow;cases hb:stc.oper 5
   ·rw[hb] at HIs
    have hto:stc.takeO 5=(none,stc):=takeO_none hb;have HIs:Hd (Calls Tryz.prog 119 #[.pointer (some ⟨g,0,none⟩),.int .i64 5] wr fun e w'=>e = .returned (.int .i64 0)∧Ext wr w'):=HIs;have hRs:R=(pp,stc):=(zu hI).stop (hto);clear hb
    go_wp2_with (go_at_call 119;refine Calls.mono (zu HIs) ?_;rintro e w1 ⟨rfl,hw⟩;have I1:=zh ((zu hI).ext hw);have p0:=zr (zu I1).r3 0 rfl;have p1:=zr (zu I1).r3 1 rfl;have p2:=zr (zu I1).r3 2 rfl;have p3:=zr (zu I1).r3 3 rfl;have p4:=zr (zu I1).r3 4 rfl;have pz:=rowF (zu I1).r3;have r0:=zr (zu I1).r2 0 rfl;have r1:=zr (zu I1).r2 1 rfl;have r2:=zr (zu I1).r2 2 rfl;have r3:=zr (zu I1).r2 3 rfl;have r4:=zr (zu I1).r2 4 rfl;have rz:=rowF (zu I1).r2;clear hw)
    rw[hRs];exact bodyPost_ret (v:=nodV k o s n (.slice a l.length cap)) (by simp[results,Tryz.results97,go_sem,r0,r1,r2,r3,r4]) rfl (rnode_end (r:=(pp,stc)) hg (zu I1).rs (zu I1).gr (zu I1).hc (RepNL.to (fun b hb=>⟨⟨hb.1,hb.2.1⟩,rfl⟩) _ _ (zu I1).rep) (k:=k) (o:=o) (n:=n) (s:=s) (fun e=>(zu hI).np e))
   ·rename_i z
    rw[hb] at HIs;have hop:stc.oper 5=some z:=hb;have hz:=sg_some 5 (by omega) hop;have hzk:z.k=11:=hz.1;have hz1:1≤z.o:=hz.2.1;have hz2:z.o≤20:=hz.2.2;have hz0:(z.o == 0)=false:=by simp;omega
    have HIs:Hd (Calls Tryz.prog 119 #[.pointer (some ⟨g,0,none⟩),.int .i64 5] wr fun e w'=>e = .returned (.int .i64 z.o)∧Ext wr w'):=HIs;clear hz;have hlt:=oper_ne hop;obtain⟨i2,ci,hi2,hstep⟩:=(zu hI).rs.step h0 (by intro e;rw[e] at hlt;exact absurd hlt (Nat.not_lt_zero _));obtain rfl:i=i2:=by
     rw[c1] at ci;injection ci with ci;injection ci with _ ci;omega
    have HStep:=zh hstep;have HOp:=zh hop;clear hstep hb ci hop
    go_wp2_with (go_at_call 119;refine Calls.mono (zu HIs) ?_;rintro e w1 ⟨rfl,hw⟩;have X1:=zh hw;have c1:=hw.cell c1;have zf:=rowF (hw.row (zu HRow));have p0:=zr (hw.row (zu hI).r3) 0 rfl;have p1:=zr (hw.row (zu hI).r3) 1 rfl;have p2:=zr (hw.row (zu hI).r3) 2 rfl;have p3:=zr (hw.row (zu hI).r3) 3 rfl;have p4:=zr (hw.row (zu hI).r3) 4 rfl;have pz:=rowF (hw.row (zu hI).r3);clear hw)
    obtain⟨W1,hW1⟩:∃ W1,W1=w1.setCell ⟨g,1,none⟩ (.int .i64 ((i:Int)+1)):=⟨_,rfl⟩;rw[← hW1];have hsz1:W1.heap.size=w1.heap.size:=by rw[hW1];simp[World.setCell]
    have hS1:Rp W1 g len T wd stc.next:=by rw[hW1];exact zu HStep w1 (Gr.of (zu X1)) ((zu X1).block g (by omega))
    have hG1:Gr g wr W1:=by rw[hW1];exact(Gr.of (zu X1)).set (p:=⟨g,_,none⟩) (Or.inr rfl) _
    have R3:=zh (hG1.row (zu hI).r3 (by omega));have S1:=zh hS1;have G1:=zh hG1;clear p0 p1 p2 p3 p4 pz hW1 hS1 hG1 c1 zf;have p0:=zr (zu R3) 0 rfl;have p1:=zr (zu R3) 1 rfl;have p2:=zr (zu R3) 2 rfl;have p3:=zr (zu R3) 3 rfl;have p4:=zr (zu R3) 4 rfl;have pz:=rowF (zu R3);have D1:Hd (Rp W1.drew g len T wd stc.next):=(zu S1).ext (Ext.drew (Ext.refl _));have hbW:b3 < W1.heap.size:=(Array.getElem?_eq_some_iff.1 (zu R3)).1;have HXs:=zh (zu HS stc.next (by have:=next_le stc;omega));unfold RIs at HXs
    go_wp2_with fail
    go_region_law (first
     | (refine step_call_two rfl 97 (.tmp 98) (.tmp 100) 65 3 rfl _ _ (by simp[Act.eval,Act.put]) (by first | (simp[Act.eval,Act.put];done) | (simp[Act.eval,Act.put];rfl)) (enterRExpr _ _ _) (Calls.mono (zu HXs _ (zu D1)) ?_);rintro e w3 ⟨v,p2,rfl,hr,hp,hs,hw⟩;obtain⟨k2,o2,s2,n2,l2⟩:=p2;rw[RepN] at hr;obtain⟨a2,cap2,rfl,hcap2,hl3⟩:=hr;have RE:=zh (hw.row (zu R3) (by omega));have p0:=zr (zu RE) 0 rfl;have p1:=zr (zu RE) 1 rfl;have p2:=zr (zu RE) 2 rfl;have p3:=zr (zu RE) 3 rfl;have p4:=zr (zu RE) 4 rfl;have pz:=rowF (zu RE);have S3:=zh hs;have P3:=zh hp;have L3:=zh hl3;have X3:=zh hw;have hb43:b3 < w3.heap.size:=Nat.lt_of_lt_of_le hbW hw.size;clear hw hs hl3 hp;refine⟨_,rfl,?_⟩))
    all_goals
     have LM:=RvI.of (zu hI) h0 (zu HOp) (zu HSH) (zu G1) (Gr.drew_of (zu X3)) (zu S3) (zu P3) hcap2 (zu L3) (Ext.alloc w3 _) (Go.heap_alloc_new w3 (.cells #[.int .i64 k,.int .i64 o,.string s,.int .i64 n,.slice a l.length cap,.int .i64 k2,.int .i64 o2,.string s2,.int .i64 n2,.slice a2 l2.length cap2] 46));rw[hzk] at LM;refine gen_world (F:=fun W5=>Exit.then _ _ Exit.normal _ W5) ?_;intro W5 hW5;replace hW5:W5=set5 (w3.alloc (.cells #[.int .i64 k,.int .i64 o,.string s,.int .i64 n,.slice a l.length cap,.int .i64 k2,.int .i64 o2,.string s2,.int .i64 n2,.slice a2 l2.length cap2] 46)) b3 11 z.o zE 0 (.slice (some ⟨w3.heap.size,0,none⟩) 2 2):=hW5.trans (set5_alloc hb43 _ _ _ _ _ _);rw[← hW5] at LM;have M:=zh LM;have hm0:=rleft_eq (zu hI).rs;have hm1:=rleft_eq LM.rs;have hl2:=zu HSH stc.next
     clear LM hW5 S3 L3 X3 P3 RE R3 S1 G1 D1
     go_wp2_with fail
     go_roundw
     case rel=>exact⟨_,_,_,_,_,_,_,_,_,_,M,by have:=next_le stc;omega⟩
     case measure =>
      rw[hm0,hm1,if_pos h0]
      split <;> omega
  ·have he2:(stc.e == 0)=false:=by simpa using h0
   obtain⟨c0,c1,c2,c3,c4,c5,c6,zf⟩:=rp_c hrow;have hto:stc.takeO 5=(none,stc):=takeO_nil (hJ.rs.nv.nil h0) _;have HE0:=zh h0;have hRs:R=(pp,stc):=(zu hI).stop (hto);have r0:=zr hJ.r2 0 rfl;have r1:=zr hJ.r2 1 rfl;have r2:=zr hJ.r2 2 rfl;have r3:=zr hJ.r2 3 rfl;have r4:=zr hJ.r2 4 rfl;have rz:=rowF hJ.r2;clear hJ hrow h0 hto
   go_wp2_with fail
   rw[hRs];exact bodyPost_ret (v:=nodV k o s n (.slice a l.length cap)) (by simp[results,Tryz.results97,go_sem,r0,r1,r2,r3,r4]) rfl (rnode_end (r:=(pp,stc)) hg (zu hI).rs (zu hI).gr (zu hI).hc (RepNL.to (fun b hb=>⟨⟨hb.1,hb.2.1⟩,rfl⟩) _ _ (zu hI).rep) (k:=k) (o:=o) (n:=n) (s:=s) (fun e=>absurd e (zu HE0)))
end
section
structure RMem (g len:Nat) (T:List Tk) (wd:Int) (w wr:World) (b3:Nat) (k o:Int) (s:ByteArray) (n:Int) (l:List PN) (a:Option Addr) (cap:Nat) (stc:PS):Prop where
 r2:wr.heap[w.heap.size]? = some (nodO 0 0 zE 0 (.slice none 0 0))
 r3:wr.heap[b3]? = some (nodO k o s n (.slice a l.length cap))
 hc:l.length≤cap
 rep:RepNL wr (fun b=>w.heap.size < b∧b < wr.heap.size∧b≠b3) l a
 h3:w.heap.size < b3
 hg:g < w.heap.size
 rs:Rp wr g len T wd stc
 gr:Gr g w wr
theorem RMem.go {g len:Nat} {T:List Tk} {wd:Int} {w wr w1:World} {b3:Nat} {k o:Int} {s:ByteArray} {n:Int} {l:List PN} {a:Option Addr} {cap:Nat} {stc st2:PS}
  (h:RMem g len T wd w wr b3 k o s n l a cap stc) (x:Gr g wr w1) (hs:Rp w1 g len T wd st2):RMem g len T wd w w1 b3 k o s n l a cap st2:=by
 have hg:=h.hg;have h3:=h.h3;exact⟨x.row h.r2 (by omega),x.row h.r3 (by omega),h.hc,RepNL.to (fun b hb=>⟨⟨hb.1,Nat.lt_of_lt_of_le hb.2.1 x.size,hb.2.2⟩,x.block b hb.2.1 (by have:=hb.1;omega)⟩) _ _ h.rep,h.h3,h.hg,hs,h.gr.trans x⟩
theorem RMem.of {g len:Nat} {T:List Tk} {wd:Int} {w wr w3 w4:World} {b3:Nat} {k o:Int} {s:ByteArray} {n:Int} {l:List PN} {a:Option Addr} {cap:Nat} {stc st2:PS} {k2 o2:Int} {s2:ByteArray} {n2:Int} {l2:List PN} {a2:Option Addr} {cap2:Nat} {t:TypeId} (zk zo:Int)
  (h:RMem g len T wd w wr b3 k o s n l a cap stc) (X3:Gr g wr w3) (S3:Rp w3 g len T wd st2) (hc2:l2.length≤cap2) (L3:RepNL w3 (Fr wr.heap.size w3.heap.size) l2 a2) (X4:Ext w3 w4)
  (RI:w4.heap[w3.heap.size]? = some (.cells #[.int .i64 k,.int .i64 o,.string s,.int .i64 n,.slice a l.length cap,.int .i64 k2,.int .i64 o2,.string s2,.int .i64 n2,.slice a2 l2.length cap2] t (0,0))) :
  RMem g len T wd w (set5 w4 b3 zk zo zE 0 (.slice (some ⟨w3.heap.size,0,none⟩) 2 2)) b3 zk zo zE 0 [⟨k,o,s,n,l⟩,⟨k2,o2,s2,n2,l2⟩] (some ⟨w3.heap.size,0,none⟩) 2 st2:=by
 have hg:=h.hg;have h3:=h.h3;have hb3:b3 < wr.heap.size:=(Array.getElem?_eq_some_iff.1 h.r3).1;have hlt:w3.heap.size < w4.heap.size:=(Array.getElem?_eq_some_iff.1 RI).1;have X14:Gr g wr w4:=X3.trans (Gr.of X4);have hs3:=X3.size;have hgs:=h.gr.size;have G5:Gr g w (set5 w4 b3 zk zo zE 0 (.slice (some ⟨w3.heap.size,0,none⟩) 2 2)):=(h.gr.trans X14).set5 (by omega) _ _ _ _ _;have S5:=(S3.ext X4).set5 (b:=b3) (by omega) zk zo zE 0 (.slice (some ⟨w3.heap.size,0,none⟩) 2 2);have Z5:=set5_size w4 b3 zk zo zE 0 (.slice (some ⟨w3.heap.size,0,none⟩) 2 2);have B5:∀ x,x≠b3→(set5 w4 b3 zk zo zE 0 (.slice (some ⟨w3.heap.size,0,none⟩) 2 2)).heap[x]? = w4.heap[x]?:=fun x hx=>set5_block hx _ _ _ _ _;have R5:=set5_row (X14.row h.r3 (by omega)) zk zo zE 0 (.slice (some ⟨w3.heap.size,0,none⟩) 2 2)
 generalize set5 w4 b3 zk zo zE 0 (.slice (some ⟨w3.heap.size,0,none⟩) 2 2)=W at *;have hr2:W.heap[w.heap.size]? = some (nodO 0 0 zE 0 (.slice none 0 0)):=(B5 _ (by omega)).trans (X14.row h.r2 (by omega));have hp1:RepNL W (fun b=>w.heap.size < b∧b < W.heap.size∧b≠b3) l a:=RepNL.to (fun b hb=>⟨⟨hb.1,by omega,hb.2.2⟩,(B5 b hb.2.2).trans (X14.block b hb.2.1 (by omega))⟩) _ _ h.rep;have hp2:RepNL W (fun b=>w.heap.size < b∧b < W.heap.size∧b≠b3) l2 a2:=RepNL.to (fun b hb=>by
  have h1:=hb.1;have h2:=hb.2;exact⟨⟨by omega,by omega,by omega⟩,(B5 b (by omega)).trans (X4.block b hb.2)⟩) _ _ L3
 have hpr:=pair_rep (F:=fun b=>w.heap.size < b∧b < W.heap.size∧b≠b3) ((B5 _ (by omega)).trans RI) ⟨by omega,by omega,by omega⟩ h.hc hc2 hp1 hp2;exact⟨hr2,R5,Nat.le_refl _,hpr,h3,hg,S5,G5⟩
theorem Rp.as2 {w:World} {g len:Nat} {T:List Tk} {wd:Int} {st r:PS} (h:Rp w g len T wd st) (h0:st.e≠0) (k1:r.e=st.e) (k2:r.pl=st.pl) (k3:r.ts = []):Rp w g len T wd r:=by
 obtain⟨V,i,pl,dp,h1,h2,h3,h4,h5⟩:=h.ex;exact⟨⟨V,i,pl,dp,by rw[k1];exact h1,h2,h3,fun e=>absurd (k1.symm.trans e) h0,fun _=>(h5 h0).trans k2.symm⟩,⟨fun e=>absurd (k1.symm.trans e) h0,fun _=>k3⟩,h.tk,h.tl⟩
theorem inBr_bad {st:PS} (nv:Nv st) {len:Nat} {ex:Rdr} (hex:GoodR ex) (c:ByteArray) (h:(st.enter len).e≠0):(inBrP len ex c st).2.e=(st.enter len).e∧(inBrP len ex c st).2.pl=(st.enter len).pl:=by
 have n1:=enter_nv nv len;have k1:=next_kp n1;have n2:=k1.nv n1;have k2:=hex _ n2;have k3:=psign_kp (k2.nv n2) len c;exact((k1.trans k2).trans k3).bad h
variable {w w':World} {g len:Nat} {T:List Tk} {wd:Int} {st:PS}
theorem lev7_r (f:Nat) (ex:Rdr) (hge:GoodR ex) (hse:Shorter ex) (hf:st.ts.length < f)
  (hfst:∀ W,Rp W g len T wd st→Calls Tryz.prog 118 #[.pointer (some ⟨g,0,none⟩)] W (RNode W g len T wd (sglP len ex f st)))
  (hex:∀ s:PS,s.ts.length < st.ts.length→RIs g len T wd 1 ex s) (h:Rp w g len T wd st):Calls Tryz.prog 97 #[.pointer (some ⟨g,0,none⟩),.int .i64 7] w (RNode w g len T wd (idxP len ex f st)):=by
 by_cases h0:st.e=0
 case neg=>exact expr_bad_r h h0 7 (idxP len ex f) (idx_kp hge f)
 have hg:=h.lt;have hl0:=sgl_le (len:=len) hse f st;have HSE:=zh hse;have HGE:=zh hge;have HF:=zh hfst;have HX:=zh hex;unfold idxP;obtain⟨R,hRR⟩:∃ R,R=ixLoopP len ex f (sglP len ex f st).1 (sglP len ex f st).2:=⟨_,rfl⟩;rw[← hRR];have HRR:=zh hRR;obtain⟨V,i,pl,dp,h1,-⟩:=h.ex;rw[h0] at h1;obtain⟨c0,c1,c2,c3,c4,c5,c6,zf⟩:=rp_c h1;have H:=zh h;clear h1 h h0 hfst hse hex hRR hge
 go_enter Tryz.func97,Tryz.ntmps97
 go_wp2_with (go_at_call 118;refine Calls.mono (zu HF _ ((zu H).ext (Ext.alloc _ _))) ?_;rintro e w2 ⟨v,p,rfl,hr,hp,hs,hw⟩;obtain⟨pk,po,ps,pn,pl2⟩:=p;rw[RepN] at hr;obtain⟨a,cap,rfl,hcap,hl⟩:=hr;have S2:=zh hs;have L2:=zh hl;have P2:=zh hp;have X2:=zh hw;clear hw hs hl hp)
 have LI:Hd (RMem g len T wd w (w2.alloc (nodO pk po ps pn (.slice a pl2.length cap))) w2.heap.size pk po ps pn pl2 a cap (sglP len ex f st).2):=by
  have RB:=(zu X2).row (Go.heap_alloc_new w (nodO 0 0 zE 0 (.slice none 0 0))) (by omega);have hlt1:w.heap.size < w2.heap.size:=(Array.getElem?_eq_some_iff.1 RB).1;refine⟨(Ext.alloc _ _).row RB,Go.heap_alloc_new w2 _,hcap,?_,hlt1,hg,(zu S2).ext (Ext.alloc _ _),((Gr.of (Ext.alloc _ _)).trans (zu X2)).alloc _⟩;refine RepNL.to (fun b hb=>⟨⟨?fa,?fb,?fc⟩,?fe⟩) _ _ (zu L2)
  case fa=>have:=hb.1;rw[size_alloc] at this;omega
  case fb=>have:=hb.2;rw[size_alloc];omega
  case fc=>have:=hb.2;omega
  case fe=>exact(Ext.alloc w2 _).block b (by have:=hb.2;omega)
 generalize w2.heap.size=b3 at LI ⊢;refine gen_world (F:=fun W=>Code.wp _ _ _ _ W) ?_;intro WA hWA;rw[← hWA] at LI;clear hWA S2 L2 X2 hcap c0 c1 c2 c3 c4 c5 c6 zf H HF
 go_loopw [6] (fun t6 wr => ∃ (k o:Int) (s:ByteArray) (n:Int) (l:List PN) (a:Option Addr) (cap:Nat) (pp:PN) (stc:PS) (j:Nat),Hd (RMem g len T wd w wr b3 k o s n l a cap stc)∧stc.ts.length≤st.ts.length∧Hd (R=ixLoopP len ex j pp stc)∧Hd (stc.e=0→(⟨k,o,s,n,l⟩:PN)=pp)∧stc.ts.length < j) (fun _ wr=>rleft g T.length wr)
 case atStart=>exact⟨_,_,_,_,_,_,_,_,_,f,LI,hl0,HRR,P2,by omega⟩
 case round =>
  clear LI P2 HRR;obtain⟨k,o,s,n,l,a,cap,pp,stc,j,hI,hle,hE,hNP,hfu⟩:=hrel;obtain⟨j,rfl⟩:∃ i,j=i+1:=⟨j - 1,by omega⟩;have hJ:=zu hI;have h3:=hJ.h3;have hb3:b3 < wr.heap.size:=(Array.getElem?_eq_some_iff.1 hJ.r3).1;obtain⟨V,i,pl,dp,hrow,-⟩:=hJ.rs.ex;by_cases h0:stc.e=0
  ·rw[h0] at hrow
   obtain⟨c0,c1,c2,c3,c4,c5,c6,zf⟩:=rp_c hrow;have HIs:Hd (Calls Tryz.prog 63 #[.pointer (some ⟨g,0,none⟩),.string ⟨#[91]⟩] wr fun e w'=>e = .returned (.bool (stc.isS ⟨#[91]⟩))∧Ext wr w'):=by
    have:=is_r hJ.rs h0 ⟨#[91]⟩;rw[isA_S hJ.rs h0 (by decide +kernel)] at this;exact this
   have hnv:=hJ.rs.nv;clear hJ hrow;cases hb:stc.isS ⟨#[91]⟩
   ·rw[hb] at HIs
    have hop:stc.oper 7=none:=by rw[oper_7,hb];rfl
    have hRs:R=(pp,stc):=by rw[zu hE,ixLoopP,hop]
    clear hb
    go_wp2_with (go_at_call 63;refine Calls.mono (zu HIs) ?_;rintro e w1 ⟨rfl,hw⟩;have I1:=zh ((zu hI).go (Gr.of hw) ((zu hI).rs.ext hw));have p0:=zr (zu I1).r3 0 rfl;have p1:=zr (zu I1).r3 1 rfl;have p2:=zr (zu I1).r3 2 rfl;have p3:=zr (zu I1).r3 3 rfl;have p4:=zr (zu I1).r3 4 rfl;have pz:=rowF (zu I1).r3;have r0:=zr (zu I1).r2 0 rfl;have r1:=zr (zu I1).r2 1 rfl;have r2:=zr (zu I1).r2 2 rfl;have r3:=zr (zu I1).r2 3 rfl;have r4:=zr (zu I1).r2 4 rfl;have rz:=rowF (zu I1).r2;clear hw)
    rw[hRs];exact bodyPost_ret (v:=nodV k o s n (.slice a l.length cap)) (by simp[results,Tryz.results97,go_sem,r0,r1,r2,r3,r4]) rfl (rnode_end (r:=(pp,stc)) hg (zu I1).rs (zu I1).gr (zu I1).hc (RepNL.to (fun b hb=>⟨⟨hb.1,hb.2.1⟩,rfl⟩) _ _ (zu I1).rep) (k:=k) (o:=o) (n:=n) (s:=s) (fun e=>zu hNP e))
   ·rw[hb] at HIs
    have hop:stc.oper 7=some ⟨⟨#[91]⟩,7,11,12⟩:=by rw[oper_7,hb];rfl
    have hE2:R=ixLoopP len ex j ((⟨⟨#[91]⟩,7,11,12⟩:Opr).node [pp,(inBrP len ex ⟨#[93]⟩ stc).1]) (inBrP len ex ⟨#[93]⟩ stc).2:=by rw[zu hE,ixLoopP,hop]
    have hlt:=oper_ne hop;have hne:stc.ts≠[]:=by intro e;rw[e] at hlt;exact absurd hlt (Nat.not_lt_zero _)
    clear hb;cases he:((stc.enter len).e == 0)
    ·have hbe:(stc.enter len).e≠0:=by simpa using he
     have hbd:=inBr_bad hnv (zu HGE) (len:=len) ⟨#[93]⟩ hbe;have hk0:=inBr_kp (len:=len) (zu HGE) ⟨#[93]⟩ stc hnv;have hk:=ixLoop_kp (len:=len) (zu HGE) j ((⟨⟨#[91]⟩,7,11,12⟩:Opr).node [pp,(inBrP len ex ⟨#[93]⟩ stc).1]) _ (hk0.nv hnv);rw[← hE2] at hk;have hR1:=hk.bad (by rw[hbd.1];exact hbe);have HR1:Hd (R.2.e=(stc.enter len).e):=hR1.1.trans hbd.1;have HR2:Hd (R.2.pl=(stc.enter len).pl):=hR1.2.trans hbd.2;have HR3:Hd (R.2.ts = []):=hk.nil (by rw[hR1.1,hbd.1];exact hbe);have HBE:=zh hbe;have HIn:Hd (∀ W,Rp W g len T wd stc→Calls Tryz.prog 64 #[.pointer (some ⟨g,0,none⟩)] W (RAns W g len T wd (.bool false) (stc.enter len))):=fun W x=>he ▸ in_r x;clear hk hk0 hbd hR1 hbe he hE2
     go_wp2_with (first
      | (go_at_call 63;refine Calls.mono (zu HIs) ?_;rintro e w1 ⟨rfl,hw⟩;have X1:=zh hw;clear hw)
      | (have T9:=zu X1;go_at_call 64;refine Calls.mono (zu HIn _ ((zu hI).rs.ext T9)) ?_;rintro e w3 ⟨rfl,hs,hw⟩;have I1:=zh ((zu hI).go ((Gr.of T9).trans hw) hs);have p0:=zr (zu I1).r3 0 rfl;have p1:=zr (zu I1).r3 1 rfl;have p2:=zr (zu I1).r3 2 rfl;have p3:=zr (zu I1).r3 3 rfl;have p4:=zr (zu I1).r3 4 rfl;have pz:=rowF (zu I1).r3;have r0:=zr (zu I1).r2 0 rfl;have r1:=zr (zu I1).r2 1 rfl;have r2:=zr (zu I1).r2 2 rfl;have r3:=zr (zu I1).r2 3 rfl;have r4:=zr (zu I1).r2 4 rfl;have rz:=rowF (zu I1).r2;clear hw hs T9))
     exact bodyPost_ret (v:=nodV k o s n (.slice a l.length cap)) (by simp[results,Tryz.results97,go_sem,r0,r1,r2,r3,r4]) rfl (rnode_end (r:=R) hg ((zu I1).rs.as2 (zu HBE) (zu HR1) (zu HR2) (zu HR3)) (zu I1).gr (zu I1).hc (RepNL.to (fun b hb=>⟨⟨hb.1,hb.2.1⟩,rfl⟩) _ _ (zu I1).rep) (k:=k) (o:=o) (n:=n) (s:=s) (fun e=>absurd ((zu HR1).symm.trans e) (zu HBE)))
    ·have hbe:(stc.enter len).e=0:=by simpa using he
     have hup:=(enter_ok hbe).2;have hets:(stc.enter len).ts=stc.ts:=by rw[hup];rfl
     have heop:(stc.enter len).op=wrap64 (stc.op+1):=by rw[hup];rfl
     have hrg:=hnv.rng h0;have HIn:Hd (∀ W,Rp W g len T wd stc→Calls Tryz.prog 64 #[.pointer (some ⟨g,0,none⟩)] W (RAns W g len T wd (.bool true) (stc.enter len))):=fun W x=>he ▸ in_r x;clear he
     go_wp2_with (first
      | (go_at_call 63;refine Calls.mono (zu HIs) ?_;rintro e w1 ⟨rfl,hw⟩;have X1:=zh hw;clear hw)
      | (have T9:=zu X1;go_at_call 64;refine Calls.mono (zu HIn _ ((zu hI).rs.ext T9)) ?_;rintro e w3 ⟨rfl,hs,hw⟩;have G3:=zh ((Gr.of T9).trans hw);have S3:=zh hs;obtain⟨i3,c1,hi3,hstep⟩:=hs.step hbe (by rw[hets];exact hne);obtain⟨V3,i4,pl3,dp3,hrow3,-⟩:=hs.ex;have zf:=rowF hrow3;have HStep:=zh hstep;clear hw hs T9 hstep hrow3))
     obtain⟨W4,hW4⟩:∃ W4,W4=w3.setCell ⟨g,1,none⟩ (.int .i64 ((i3:Int)+1)):=⟨_,rfl⟩;rw[← hW4];have hS4:Rp W4 g len T wd (stc.enter len).next:=by rw[hW4];exact zu HStep w3 (Gr.refl _ _) rfl
     have hG4:Gr g wr W4:=by rw[hW4];exact(zu G3).set (p:=⟨g,_,none⟩) (Or.inr rfl) _
     have S4:=zh hS4;have G4:=zh hG4;have hn1:(stc.enter len).next.ts.length < stc.ts.length:=by rw[← hets];exact next_lt_of (by rw[hets];exact hne)
     have hnv1:=hS4.nv;have hkx:=zu HGE (stc.enter len).next hnv1;have hks:=psign_kp (hkx.nv hnv1) len ⟨#[93]⟩;have hkk:=((next_kp (enter_nv hnv len)).trans hkx).trans hks;have hlx:=zu HSE (stc.enter len).next;have hls:=psign_le (ex (stc.enter len).next).2 len ⟨#[93]⟩;have HX4:=zh (zu HX (stc.enter len).next (by omega) W4 hS4);have HKK:=zh hkk;have HKS:=zh hks;have HE2:=zh hE2;have hb3g:(b3 == g)=false:=by simp;omega
     have hb3l:g < b3:=by omega
     have hW4s:wr.heap.size≤W4.heap.size:=hG4.size;clear hW4 hS4 hG4 c1 zf HStep S3 G3 hnv1 hkx hks hkk hE2
     go_wp2_with (first
      | (go_at_call 97;refine Calls.mono (zu HX4) ?_;rintro e w5 ⟨v,p2,rfl,hr,hp,hs,hw⟩;obtain⟨k2,o2,s2,n2,l2⟩:=p2;rw[RepN] at hr;obtain⟨a2,cap2,rfl,hcap2,hl3⟩:=hr;have S5:=zh hs;have P5:=zh hp;have L5:=zh hl3;have G5:=zh ((zu G4).trans hw);have hz5:wr.heap.size≤w5.heap.size:=Nat.le_trans (zu G4).size hw.size;have hz45:W4.heap.size≤w5.heap.size:=hw.size;clear hw hs hl3 hp)
      | (have T9:=zu S5;go_at_call 33;refine Calls.mono (want_s (T9.ext (Ext.alloc _ (nodO k2 o2 s2 n2 (.slice a2 l2.length cap2)))) ⟨#[93]⟩ (by decide +kernel)) ?_;rintro e w6 ⟨rfl,hs,hw⟩;have S6:=zh hs;have G6:=zh hw;obtain⟨dp6,c4,hshut⟩:=hs.shut (fun e=>by have:=((zu HKK).ok e).2;rw[this,heop];unfold wrap64;omega);obtain⟨V3,i4,pl3,dp3,hrow3,-⟩:=hs.ex;have zf:=rowF hrow3;have HShut:=zh hshut;have RE:=zh (hw.row ((Ext.alloc _ _).row ((zu G5).row (zu hI).r3 (by omega))) (by omega));have RQ:=zh (hw.row (Go.heap_alloc_new w5 _) (by omega));have hb36:b3 < w6.heap.size:=(Array.getElem?_eq_some_iff.1 (zu RE)).1;have hb56:w5.heap.size < w6.heap.size:=(Array.getElem?_eq_some_iff.1 (zu RQ)).1;have p0:=zr (zu RE) 0 rfl;have p1:=zr (zu RE) 1 rfl;have p2:=zr (zu RE) 2 rfl;have p3:=zr (zu RE) 3 rfl;have p4:=zr (zu RE) 4 rfl;have pz:=rowF (zu RE);have q0:=zr (zu RQ) 0 rfl;have q1:=zr (zu RQ) 1 rfl;have q2:=zr (zu RQ) 2 rfl;have q3:=zr (zu RQ) 3 rfl;have q4:=zr (zu RQ) 4 rfl;have qz:=rowF (zu RQ);clear hw hs hshut hrow3 T9))
     obtain⟨W7,hW7⟩:∃ W7,W7=w6.setCell ⟨g,4,none⟩ (.int .i64 (wrap64 (dp6 - 1))):=⟨_,rfl⟩;have hS7:Rp W7 g len T wd (inBrP len ex ⟨#[93]⟩ stc).2:=by rw[hW7];exact zu HShut w6 (Gr.refl _ _) rfl
     have hz7:W7.heap.size=w6.heap.size:=by rw[hW7];simp[World.setCell]
     have hG56:Gr g w5 W7:=by rw[hW7];exact((Gr.of (Ext.alloc _ _)).trans (zu G6)).set (p:=⟨g,_,none⟩) (Or.inr rfl) _
     have hG7:Gr g wr W7:=(zu G5).trans hG56;have hgl:g < wr.heap.size:=(zu hI).rs.lt;have L7:RepNL W7 (Fr wr.heap.size W7.heap.size) l2 a2:=RepNL.to (fun b hb=>by
      have h1:=hb.1;have h2:=hb.2;exact⟨⟨by omega,by rw[hz7];omega⟩,hG56.block b h2 (by omega)⟩) _ _ (zu L5)
     have RM:=RMem.of 11 12 (zu hI) hG7 hS7 hcap2 L7 (Ext.alloc W7 _) (Go.heap_alloc_new W7 (.cells #[.int .i64 k,.int .i64 o,.string s,.int .i64 n,.slice a l.length cap,.int .i64 k2,.int .i64 o2,.string s2,.int .i64 n2,.slice a2 l2.length cap2] 46));have hfin:=set5_alloc (w:=W7) (b:=b3) (by omega) 11 12 zE 0 (.slice (some ⟨W7.heap.size,0,none⟩) 2 2) (.cells #[.int .i64 k,.int .i64 o,.string s,.int .i64 n,.slice a l.length cap,.int .i64 k2,.int .i64 o2,.string s2,.int .i64 n2,.slice a2 l2.length cap2] 46);rw[← hfin,hz7] at RM;rw[← hW7];have hm0:=rleft_eq (zu hI).rs;have hm1:=rleft_eq RM.rs;rw[if_pos h0] at hm0;have hin:(inBrP len ex ⟨#[93]⟩ stc).2.ts.length≤(stc.enter len).next.ts.length:=Nat.le_trans hls hlx;refine⟨⟨_,_,_,_,_,_,_,_,_,j,RM,by omega,zu HE2,fun e => ?_,by omega⟩,?_⟩
     ·have e5:=((zu HKS).ok e).1
      rw[zu hNP h0,zu P5 e5];rfl
     ·refine Nat.lt_of_le_of_lt (Nat.le_of_eq hm1) ?_
      rw[hm0]
      split <;> omega
  ·have he2:(stc.e == 0)=false:=by simpa using h0
   obtain⟨c0,c1,c2,c3,c4,c5,c6,zf⟩:=rp_c hrow;have hop:stc.oper 7=none:=by
    have:=takeO_nil (hJ.rs.nv.nil h0) 7;unfold PS.takeO at this
    split at this
    ·cases this
    ·assumption
   have hRs:R=(pp,stc):=by rw[zu hE,ixLoopP,hop]
   have HE0:=zh h0;have p0:=zr hJ.r3 0 rfl;have p1:=zr hJ.r3 1 rfl;have p2:=zr hJ.r3 2 rfl;have p3:=zr hJ.r3 3 rfl;have p4:=zr hJ.r3 4 rfl;have pz:=rowF hJ.r3;have r0:=zr hJ.r2 0 rfl;have r1:=zr hJ.r2 1 rfl;have r2:=zr hJ.r2 2 rfl;have r3:=zr hJ.r2 3 rfl;have r4:=zr hJ.r2 4 rfl;have rz:=rowF hJ.r2;clear hJ hrow h0 hop
   go_wp2_with fail
   rw[hRs];exact bodyPost_ret (v:=nodV k o s n (.slice a l.length cap)) (by simp[results,Tryz.results97,go_sem,r0,r1,r2,r3,r4]) rfl (rnode_end (r:=(pp,stc)) hg (zu hI).rs (zu hI).gr (zu hI).hc (RepNL.to (fun b hb=>⟨⟨hb.1,hb.2.1⟩,rfl⟩) _ _ (zu hI).rep) (k:=k) (o:=o) (n:=n) (s:=s) (fun e=>absurd e (zu HE0)))
end
section
variable {w w':World} {g len:Nat} {T:List Tk} {wd:Int} {st:PS}
theorem res_nodR {fn:Func} {p:Tmp} (h:fn.results = #[.cell p 46]) (tmps:Array Value) (w:World) (b:Nat) (k o:Int) (s:ByteArray) (n:Int) (l:Value) (hp:tmps.getD p undef = .pointer (some ⟨b,0,none⟩)) (hg:w.heap[b]? = some (nodO k o s n l)) :
  (results fn tmps).run Tryz.prog w = .ok (nodV k o s n l) w :=
 results_cell_row h tmps w b _ _ _ _ hp hg Tryz.underlying46 rfl (by kernel_rfl)
theorem one_repR {W:World} {F:Nat→Prop} {B:Nat} {t:TypeId} {k o n:Int} {s:ByteArray} {l:List PN} {a:Option Addr} {cap:Nat} (hB:W.heap[B]? = some (.cells #[.int .i64 k,.int .i64 o,.string s,.int .i64 n,.slice a l.length cap] t (0,0)))
  (hF:F B) (h1:l.length≤cap) (r1:RepNL W F l a):RepNL W F [⟨k,o,s,n,l⟩] (some ⟨B,0,none⟩):=by
 rw[RepNL];exact⟨B,0,_,_,_,_,_,rfl,hF,by rw[RepN];exact⟨a,cap,rfl,h1,r1⟩,zr hB 0 rfl,zr hB 1 rfl,zr hB 2 rfl,zr hB 3 rfl,zr hB 4 rfl,by simp[RepNL]⟩
theorem lev6_r (rd:Rdr) (hgr:GoodR rd) (hah:∀ W,Rp W g len T wd st→st.e=0→Calls Tryz.prog 117 #[.pointer (some ⟨g,0,none⟩)] W (RNode W g len T wd (rd st))) (h:Rp w g len T wd st) :
  Calls Tryz.prog 97 #[.pointer (some ⟨g,0,none⟩),.int .i64 6] w (RNode w g len T wd (rd st)):=by
 by_cases h0:st.e=0
 case neg=>exact expr_bad_r h h0 6 rd hgr
 have hg:=h.lt;have HA:=zh (hah _ (h.ext (Ext.alloc w (nodO 0 0 zE 0 (.slice none 0 0)))) h0);obtain⟨V,i,pl,dp,h1,-⟩:=h.ex;rw[h0] at h1;obtain⟨c0,c1,c2,c3,c4,c5,c6,zf⟩:=rp_c h1;clear h1 h h0 hah hgr
 go_enter Tryz.func97,Tryz.ntmps97
 go_wp2_with (go_at_call 117;refine Calls.mono (zu HA) ?_;rintro e w2 ⟨v,p,rfl,hr,hp,hs,hw⟩;obtain⟨k,o,s,n,l⟩:=p;rw[RepN] at hr;obtain⟨a,cap,rfl,hcap,hl⟩:=hr;have RB:=zh (hw.row (Go.heap_alloc_new w _) (by omega));have r0:=zr (zu RB) 0 rfl;have r1:=zr (zu RB) 1 rfl;have r2:=zr (zu RB) 2 rfl;have r3:=zr (zu RB) 3 rfl;have r4:=zr (zu RB) 4 rfl;have rz:=rowF (zu RB);have S2:=zh hs;have L2:=zh hl;have P2:=zh hp;have X2:=zh ((Gr.of (Ext.alloc _ _)).trans hw);clear hw hs hl hp)
 exact bodyPost_ret (v:=nodV k o s n (.slice a l.length cap)) (by simp[results,Tryz.results97,go_sem,r0,r1,r2,r3,r4]) rfl (rnode_end hg (zu S2) (zu X2) hcap (RepNL.to (fun b hb=>⟨⟨by have:=hb.1;rw[size_alloc] at this;omega,hb.2⟩,rfl⟩) _ _ (zu L2)) (k:=k) (o:=o) (n:=n) (s:=s) (zu P2))
theorem ahead_r (f:Nat) (sg ex:Rdr) (hgs:GoodR sg) (hge:GoodR ex) (h0:st.e=0)
  (hix:∀ W,Rp W g len T wd st→Calls Tryz.prog 97 #[.pointer (some ⟨g,0,none⟩),.int .i64 7] W (RNode W g len T wd (idxP len ex f st)))
  (hsg:∀ s:PS,s.ts.length < st.ts.length→RIs g len T wd 6 sg s) (h:Rp w g len T wd st):Calls Tryz.prog 117 #[.pointer (some ⟨g,0,none⟩)] w (RNode w g len T wd (sgnP len sg ex f st)):=by
 have hg:=h.lt;have HIs:∀ sgn:ByteArray,wordL sgn.toList=false→Hd (∀ W,Ext w W→Calls Tryz.prog 63 #[.pointer (some ⟨g,0,none⟩),.string sgn] W fun e w'=>e = .returned (.bool (st.isS sgn))∧Ext W w'):=fun sgn hs W x=>by
  have:=is_r (h.ext x) h0 sgn;rw[isA_S h h0 hs] at this;exact this
 have HI1:=HIs ⟨#[45]⟩ (by decide +kernel);have HI2:=HIs ⟨#[33]⟩ (by decide +kernel);have hop:=oper_6 st;unfold sgnP;have H:=zh h;clear HIs;cases b1:st.isS ⟨#[45]⟩
 ·cases b2:st.isS ⟨#[33]⟩
  ·rw[b1,b2] at hop
   rw[b1] at HI1;rw[b2] at HI2;have hop2:st.oper 6=none:=hop;rw[hop2];have HX:=zh (fun W (x:Ext w W)=>hix W (h.ext x));clear hop hop2 h hix
   go_enter Tryz.func117,Tryz.ntmps117
   go_wp2_with (first
    | (go_at_call 63;refine Calls.mono (zu HI1 _ (Ext.alloc _ _)) ?_;rintro e w1 ⟨rfl,hw⟩;have X1:=zh ((Ext.alloc _ _).trans hw);have R1:=zh (hw.row (Go.heap_alloc_new w _));clear hw HI1)
    | (have T9:=zu X1;go_at_call 63;refine Calls.mono (zu HI2 _ T9) ?_;rintro e w2 ⟨rfl,hw⟩;have X2:=zh (T9.trans hw);have R2:=zh (hw.row (zu R1));clear hw T9 X1 R1)
    | (have T9:=zu X2;go_at_call 97;refine Calls.mono (zu HX _ T9) ?_;rintro e w3 ⟨v,p,rfl,hr,hp,hs,hw⟩;obtain⟨k,o,s,n,l⟩:=p;rw[RepN] at hr;obtain⟨a,cap,rfl,hcap,hl⟩:=hr;have hz9:w.heap.size < w2.heap.size:=(Array.getElem?_eq_some_iff.1 (zu R2)).1;have RB:=zh (hw.row (zu R2) (by omega));have r0:=zr (zu RB) 0 rfl;have r1:=zr (zu RB) 1 rfl;have r2:=zr (zu RB) 2 rfl;have r3:=zr (zu RB) 3 rfl;have r4:=zr (zu RB) 4 rfl;have rz:=rowF (zu RB);have S3:=zh hs;have L3:=zh hl;have P3:=zh hp;have X3:=zh ((Gr.of T9).trans hw);clear hw hs hl hp T9))
   exact bodyPost_ret (v:=nodV k o s n (.slice a l.length cap)) (by simp[results,Tryz.results117,go_sem,r0,r1,r2,r3,r4]) rfl (rnode_end hg (zu S3) (zu X3) hcap (RepNL.to (fun b hb=>⟨⟨by have:=hb.1;omega,hb.2⟩,rfl⟩) _ _ (zu L3)) (k:=k) (o:=o) (n:=n) (s:=s) (zu P3))
  ·rw[b1,b2] at hop
   rw[b1] at HI1;rw[b2] at HI2;have hop2:st.oper 6=some (⟨⟨#[33]⟩,6,14,16⟩:Opr):=hop;rw[hop2];have hne:st.ts≠[]:=by
    intro e;have:=oper_ne hop2;rw[e] at this;exact absurd this (Nat.not_lt_zero _)
   have hnv:=h.nv;obtain⟨RS,hRS⟩:∃ RS:PN × PS,RS=((⟨⟨#[33]⟩,6,14,16⟩:Opr).node [(sg (st.enter len).next).1],(sg (st.enter len).next).2.leave):=⟨_,rfl⟩;show Calls _ _ _ _ (RNode w g len T wd ((⟨⟨#[33]⟩,6,14,16⟩:Opr).node [(sg (st.enter len).next).1],(sg (st.enter len).next).2.leave));rw[← hRS];cases he:((st.enter len).e == 0)
   ·have hbe:(st.enter len).e≠0:=by simpa using he
    have n1:=enter_nv hnv len;have k1:=next_kp n1;have k2:=k1.trans (hgs _ (k1.nv n1));have hb2:=k2.bad hbe;have HR1:Hd (RS.2.e=(st.enter len).e):=by rw[Hd,hRS];exact hb2.1
    have HR2:Hd (RS.2.pl=(st.enter len).pl):=by rw[Hd,hRS];exact hb2.2
    have HR3:Hd (RS.2.ts = []):=by rw[Hd,hRS];exact k2.nil (by rw[hb2.1];exact hbe)
    have HBE:=zh hbe;have HIn:Hd (∀ W,Rp W g len T wd st→Calls Tryz.prog 64 #[.pointer (some ⟨g,0,none⟩)] W (RAns W g len T wd (.bool false) (st.enter len))):=fun W x=>he ▸ in_r x;clear hop hop2 h hix hsg hbe n1 k1 k2 hb2 he hRS
    go_enter Tryz.func117,Tryz.ntmps117
    go_wp2_with (first
     | (go_at_call 63;refine Calls.mono (zu HI1 _ (Ext.alloc _ _)) ?_;rintro e w1 ⟨rfl,hw⟩;have X1:=zh ((Ext.alloc _ _).trans hw);have R1:=zh (hw.row (Go.heap_alloc_new w _));clear hw HI1)
     | (have T9:=zu X1;go_at_call 63;refine Calls.mono (zu HI2 _ T9) ?_;rintro e w2 ⟨rfl,hw⟩;have X2:=zh (T9.trans hw);have R2:=zh (hw.row (zu R1));clear hw T9 X1 R1)
     | (have T9:=zu X2;go_at_call 64;refine Calls.mono (zu HIn _ ((zu H).ext T9)) ?_;rintro e w3 ⟨rfl,hs,hw⟩;have S3:=zh hs;have G3:=zh ((Gr.of T9).trans hw);have hz9:w.heap.size < w2.heap.size:=(Array.getElem?_eq_some_iff.1 (zu R2)).1;have RB:=zh (hw.row (zu R2) (by omega));have r0:=zr (zu RB) 0 rfl;have r1:=zr (zu RB) 1 rfl;have r2:=zr (zu RB) 2 rfl;have r3:=zr (zu RB) 3 rfl;have r4:=zr (zu RB) 4 rfl;have rz:=rowF (zu RB);clear hw hs T9))
    exact bodyPost_ret (v:=nodV 0 0 zE 0 (.slice none 0 0)) (by simp[results,Tryz.results117,go_sem,r0,r1,r2,r3,r4]) rfl (rnode_end (l:=[]) hg ((zu S3).as2 (zu HBE) (zu HR1) (zu HR2) (zu HR3)) (zu G3) (Nat.le_refl _) trivial (fun e=>absurd ((zu HR1).symm.trans e) (zu HBE)))
   ·have hbe:(st.enter len).e=0:=by simpa using he
    have hup:=(enter_ok hbe).2;have hets:(st.enter len).ts=st.ts:=by rw[hup];rfl
    have heop:(st.enter len).op=wrap64 (st.op+1):=by rw[hup];rfl
    have hrg:=hnv.rng h0;have HIn:Hd (∀ W,Rp W g len T wd st→Calls Tryz.prog 64 #[.pointer (some ⟨g,0,none⟩)] W (RAns W g len T wd (.bool true) (st.enter len))):=fun W x=>he ▸ in_r x;have hn1:(st.enter len).next.ts.length < st.ts.length:=by rw[← hets];exact next_lt_of (by rw[hets];exact hne)
    have HXs:=zh (hsg (st.enter len).next hn1);unfold RIs at HXs;have n1:=enter_nv hnv len;have k1:=next_kp n1;have k2:=k1.trans (hgs _ (k1.nv n1));have HKK:=zh k2;have HRS:=zh hRS;clear hop hop2 h hix hsg n1 k1 k2 he hRS hup
    go_enter Tryz.func117,Tryz.ntmps117
    go_wp2_with (first
     | (go_at_call 63;refine Calls.mono (zu HI1 _ (Ext.alloc _ _)) ?_;rintro e w1 ⟨rfl,hw⟩;have X1:=zh ((Ext.alloc _ _).trans hw);have R1:=zh (hw.row (Go.heap_alloc_new w _));clear hw HI1)
     | (have T9:=zu X1;go_at_call 63;refine Calls.mono (zu HI2 _ T9) ?_;rintro e w2 ⟨rfl,hw⟩;have X2:=zh (T9.trans hw);have R2:=zh (hw.row (zu R1));clear hw T9 X1 R1)
     | (have T9:=zu X2;go_at_call 64;refine Calls.mono (zu HIn _ ((zu H).ext T9)) ?_;rintro e w3 ⟨rfl,hs,hw⟩;have G3:=zh ((Gr.of T9).trans hw);have S3:=zh hs;have hz9:w.heap.size < w2.heap.size:=(Array.getElem?_eq_some_iff.1 (zu R2)).1;have RB:=zh (hw.row (zu R2) (by omega));obtain⟨i3,c1,hi3,hstep⟩:=hs.step hbe (by rw[hets];exact hne);obtain⟨V3,i4,pl3,dp3,hrow3,-⟩:=hs.ex;have zf:=rowF hrow3;have HStep:=zh hstep;clear hw hs T9 hstep hrow3))
    obtain⟨W4,hW4⟩:∃ W4,W4=w3.setCell ⟨g,1,none⟩ (.int .i64 ((i3:Int)+1)):=⟨_,rfl⟩;rw[← hW4];have hS4:Rp W4 g len T wd (st.enter len).next:=by rw[hW4];exact zu HStep w3 (Gr.refl _ _) rfl
    have hG4:Gr g w W4:=by rw[hW4];exact(zu G3).set (p:=⟨g,_,none⟩) (Or.inr rfl) _
    have hR4:W4.heap[w.heap.size]? = some (nodO 0 0 zE 0 (.slice none 0 0)):=by rw[hW4];exact row_other (zu RB) (by show w.heap.size≠g;omega) _ _
    have S4:=zh hS4;have G4:=zh hG4;have R4:=zh hR4;have hz4:w.heap.size < W4.heap.size:=(Array.getElem?_eq_some_iff.1 hR4).1;clear hW4 hS4 hG4 hR4 c1 zf HStep S3 G3 RB
    go_wp2_with (go_at_call 97;refine Calls.mono (zu HXs _ (zu S4)) ?_;rintro e w5 ⟨v,p2,rfl,hr,hp,hs,hw⟩;obtain⟨k2,o2,s2,n2,l2⟩:=p2;rw[RepN] at hr;obtain⟨a2,cap2,rfl,hcap2,hl3⟩:=hr;have S5:=zh hs;have P5:=zh hp;have L5:=zh hl3;have G5:=zh ((zu G4).trans hw);have hz45:W4.heap.size≤w5.heap.size:=hw.size;have RB:=zh (hw.row (zu R4) (by omega));have r0:=zr (zu RB) 0 rfl;have r1:=zr (zu RB) 1 rfl;have r2:=zr (zu RB) 2 rfl;have r3:=zr (zu RB) 3 rfl;have r4:=zr (zu RB) 4 rfl;have rz:=rowF (zu RB);obtain⟨dp5,c4,hshut⟩:=hs.shut (fun e=>by have:=((zu HKK).ok e).2;rw[this,heop];unfold wrap64;omega);obtain⟨V5,i5,pl5,dpx,hrow5,-⟩:=hs.ex;have zf:=rowF hrow5;have HShut:=zh hshut;have hg5:g < w5.heap.size:=hs.lt;have hwg:(w.heap.size == g)=false:=(by simp;omega);have hz5:w.heap.size < w5.heap.size:=(by omega);clear hw hs hl3 hp hshut hrow5)
    obtain⟨W6,hW6⟩:∃ W6,W6=w5.setCell ⟨g,4,none⟩ (.int .i64 (wrap64 (dp5 - 1))):=⟨_,rfl⟩;have hz6:W6.heap.size=w5.heap.size:=by rw[hW6];simp[World.setCell]
    have hS6:Rp W6 g len T wd RS.2:=by rw[zu HRS,hW6];exact zu HShut w5 (Gr.refl _ _) rfl
    have hG56:Gr g w5 W6:=by rw[hW6];exact(Gr.refl _ _).set (p:=⟨g,_,none⟩) (Or.inr rfl) _
    rw[← hW6];have hfin:RNode w g len T wd RS (.returned (nodV 14 16 zE 0 (.slice (some ⟨w5.heap.size,0,none⟩) 1 1))) (((set5 W6 w.heap.size 14 16 zE 0 (.slice (some ⟨w5.heap.size,0,none⟩) 1 1)).alloc (nodO k2 o2 s2 n2 (.slice a2 l2.length cap2))).alloc (nodO 14 16 zE 0 (.slice (some ⟨w5.heap.size,0,none⟩) 1 1))):=by
     rw[set5_alloc (by omega),set5_alloc (by rw[size_alloc];omega)];have X8:Ext W6 ((W6.alloc (nodO k2 o2 s2 n2 (.slice a2 l2.length cap2))).alloc (nodO 14 16 zE 0 (.slice (some ⟨w5.heap.size,0,none⟩) 1 1))):=(Ext.alloc _ _).trans (Ext.alloc _ _);have hrow8:((W6.alloc (nodO k2 o2 s2 n2 (.slice a2 l2.length cap2))).alloc (nodO 14 16 zE 0 (.slice (some ⟨w5.heap.size,0,none⟩) 1 1))).heap[w5.heap.size]? = some (nodO k2 o2 s2 n2 (.slice a2 l2.length cap2)):=(Ext.alloc _ _).row (by rw[← hz6];exact Go.heap_alloc_new W6 _);have hz8:((W6.alloc (nodO k2 o2 s2 n2 (.slice a2 l2.length cap2))).alloc (nodO 14 16 zE 0 (.slice (some ⟨w5.heap.size,0,none⟩) 1 1))).heap.size=w5.heap.size+2:=by rw[size_alloc,size_alloc,hz6]
     refine rnode_end (l:=[⟨k2,o2,s2,n2,l2⟩]) hg (hS6.ext X8) (((zu G5).trans hG56).trans (Gr.of X8)) (Nat.le_refl _) ?_ (fun e => ?_)
     ·refine one_repR hrow8 ⟨by omega,by omega⟩ hcap2 (RepNL.to (fun b hb => ?_) _ _ (zu L5))
      have h1:=hb.1;have h2:=hb.2;exact⟨⟨by omega,by omega⟩,(X8.block b (by omega)).trans (hG56.block b h2 (by omega))⟩
     ·rw[zu HRS] at e ⊢
      rw[zu P5 e];rfl
    have hrowF:(((set5 W6 w.heap.size 14 16 zE 0 (.slice (some ⟨w5.heap.size,0,none⟩) 1 1)).alloc (nodO k2 o2 s2 n2 (.slice a2 l2.length cap2))).alloc (nodO 14 16 zE 0 (.slice (some ⟨w5.heap.size,0,none⟩) 1 1))).heap[w.heap.size]? = some (nodO 14 16 zE 0 (.slice (some ⟨w5.heap.size,0,none⟩) 1 1)) :=
     (Ext.alloc _ _).row ((Ext.alloc _ _).row (set5_row (hG56.row (zu RB) (by omega)) _ _ _ _ _))
    exact bodyPost_ret (v:=nodV 14 16 zE 0 (.slice (some ⟨w5.heap.size,0,none⟩) 1 1)) (res_nodR Tryz.results117 _ _ w.heap.size _ _ _ _ _ rfl hrowF) rfl hfin
 ·rw[b1] at hop
  rw[b1] at HI1;have hop2:st.oper 6=some (⟨⟨#[45]⟩,6,14,15⟩:Opr):=hop;rw[hop2];have hne:st.ts≠[]:=by
   intro e;have:=oper_ne hop2;rw[e] at this;exact absurd this (Nat.not_lt_zero _)
  have hnv:=h.nv;obtain⟨RS,hRS⟩:∃ RS:PN × PS,RS=((⟨⟨#[45]⟩,6,14,15⟩:Opr).node [(sg (st.enter len).next).1],(sg (st.enter len).next).2.leave):=⟨_,rfl⟩;show Calls _ _ _ _ (RNode w g len T wd ((⟨⟨#[45]⟩,6,14,15⟩:Opr).node [(sg (st.enter len).next).1],(sg (st.enter len).next).2.leave));rw[← hRS];cases he:((st.enter len).e == 0)
  ·have hbe:(st.enter len).e≠0:=by simpa using he
   have n1:=enter_nv hnv len;have k1:=next_kp n1;have k2:=k1.trans (hgs _ (k1.nv n1));have hb2:=k2.bad hbe;have HR1:Hd (RS.2.e=(st.enter len).e):=by rw[Hd,hRS];exact hb2.1
   have HR2:Hd (RS.2.pl=(st.enter len).pl):=by rw[Hd,hRS];exact hb2.2
   have HR3:Hd (RS.2.ts = []):=by rw[Hd,hRS];exact k2.nil (by rw[hb2.1];exact hbe)
   have HBE:=zh hbe;have HIn:Hd (∀ W,Rp W g len T wd st→Calls Tryz.prog 64 #[.pointer (some ⟨g,0,none⟩)] W (RAns W g len T wd (.bool false) (st.enter len))):=fun W x=>he ▸ in_r x;clear hop hop2 h hix hsg hbe n1 k1 k2 hb2 he hRS
   go_enter Tryz.func117,Tryz.ntmps117
   go_wp2_with (first
    | (go_at_call 63;refine Calls.mono (zu HI1 _ (Ext.alloc _ _)) ?_;rintro e w1 ⟨rfl,hw⟩;have X1:=zh ((Ext.alloc _ _).trans hw);have R1:=zh (hw.row (Go.heap_alloc_new w _));clear hw HI1)
    | (have T9:=zu X1;go_at_call 64;refine Calls.mono (zu HIn _ ((zu H).ext T9)) ?_;rintro e w3 ⟨rfl,hs,hw⟩;have S3:=zh hs;have G3:=zh ((Gr.of T9).trans hw);have hz9:w.heap.size < w1.heap.size:=(Array.getElem?_eq_some_iff.1 (zu R1)).1;have RB:=zh (hw.row (zu R1) (by omega));have r0:=zr (zu RB) 0 rfl;have r1:=zr (zu RB) 1 rfl;have r2:=zr (zu RB) 2 rfl;have r3:=zr (zu RB) 3 rfl;have r4:=zr (zu RB) 4 rfl;have rz:=rowF (zu RB);clear hw hs T9))
   exact bodyPost_ret (v:=nodV 0 0 zE 0 (.slice none 0 0)) (by simp[results,Tryz.results117,go_sem,r0,r1,r2,r3,r4]) rfl (rnode_end (l:=[]) hg ((zu S3).as2 (zu HBE) (zu HR1) (zu HR2) (zu HR3)) (zu G3) (Nat.le_refl _) trivial (fun e=>absurd ((zu HR1).symm.trans e) (zu HBE)))
  ·have hbe:(st.enter len).e=0:=by simpa using he
   have hup:=(enter_ok hbe).2;have hets:(st.enter len).ts=st.ts:=by rw[hup];rfl
   have heop:(st.enter len).op=wrap64 (st.op+1):=by rw[hup];rfl
   have hrg:=hnv.rng h0;have HIn:Hd (∀ W,Rp W g len T wd st→Calls Tryz.prog 64 #[.pointer (some ⟨g,0,none⟩)] W (RAns W g len T wd (.bool true) (st.enter len))):=fun W x=>he ▸ in_r x;have hn1:(st.enter len).next.ts.length < st.ts.length:=by rw[← hets];exact next_lt_of (by rw[hets];exact hne)
   have HXs:=zh (hsg (st.enter len).next hn1);unfold RIs at HXs;have n1:=enter_nv hnv len;have k1:=next_kp n1;have k2:=k1.trans (hgs _ (k1.nv n1));have HKK:=zh k2;have HRS:=zh hRS;clear hop hop2 h hix hsg n1 k1 k2 he hRS hup
   go_enter Tryz.func117,Tryz.ntmps117
   go_wp2_with (first
    | (go_at_call 63;refine Calls.mono (zu HI1 _ (Ext.alloc _ _)) ?_;rintro e w1 ⟨rfl,hw⟩;have X1:=zh ((Ext.alloc _ _).trans hw);have R1:=zh (hw.row (Go.heap_alloc_new w _));clear hw HI1)
    | (have T9:=zu X1;go_at_call 64;refine Calls.mono (zu HIn _ ((zu H).ext T9)) ?_;rintro e w3 ⟨rfl,hs,hw⟩;have G3:=zh ((Gr.of T9).trans hw);have S3:=zh hs;have hz9:w.heap.size < w1.heap.size:=(Array.getElem?_eq_some_iff.1 (zu R1)).1;have RB:=zh (hw.row (zu R1) (by omega));obtain⟨i3,c1,hi3,hstep⟩:=hs.step hbe (by rw[hets];exact hne);obtain⟨V3,i4,pl3,dp3,hrow3,-⟩:=hs.ex;have zf:=rowF hrow3;have HStep:=zh hstep;clear hw hs T9 hstep hrow3))
   obtain⟨W4,hW4⟩:∃ W4,W4=w3.setCell ⟨g,1,none⟩ (.int .i64 ((i3:Int)+1)):=⟨_,rfl⟩;rw[← hW4];have hS4:Rp W4 g len T wd (st.enter len).next:=by rw[hW4];exact zu HStep w3 (Gr.refl _ _) rfl
   have hG4:Gr g w W4:=by rw[hW4];exact(zu G3).set (p:=⟨g,_,none⟩) (Or.inr rfl) _
   have hR4:W4.heap[w.heap.size]? = some (nodO 0 0 zE 0 (.slice none 0 0)):=by rw[hW4];exact row_other (zu RB) (by show w.heap.size≠g;omega) _ _
   have S4:=zh hS4;have G4:=zh hG4;have R4:=zh hR4;have hz4:w.heap.size < W4.heap.size:=(Array.getElem?_eq_some_iff.1 hR4).1;clear hW4 hS4 hG4 hR4 c1 zf HStep S3 G3 RB
   go_wp2_with (go_at_call 97;refine Calls.mono (zu HXs _ (zu S4)) ?_;rintro e w5 ⟨v,p2,rfl,hr,hp,hs,hw⟩;obtain⟨k2,o2,s2,n2,l2⟩:=p2;rw[RepN] at hr;obtain⟨a2,cap2,rfl,hcap2,hl3⟩:=hr;have S5:=zh hs;have P5:=zh hp;have L5:=zh hl3;have G5:=zh ((zu G4).trans hw);have hz45:W4.heap.size≤w5.heap.size:=hw.size;have RB:=zh (hw.row (zu R4) (by omega));have r0:=zr (zu RB) 0 rfl;have r1:=zr (zu RB) 1 rfl;have r2:=zr (zu RB) 2 rfl;have r3:=zr (zu RB) 3 rfl;have r4:=zr (zu RB) 4 rfl;have rz:=rowF (zu RB);obtain⟨dp5,c4,hshut⟩:=hs.shut (fun e=>by have:=((zu HKK).ok e).2;rw[this,heop];unfold wrap64;omega);obtain⟨V5,i5,pl5,dpx,hrow5,-⟩:=hs.ex;have zf:=rowF hrow5;have HShut:=zh hshut;have hg5:g < w5.heap.size:=hs.lt;have hwg:(w.heap.size == g)=false:=(by simp;omega);have hz5:w.heap.size < w5.heap.size:=(by omega);clear hw hs hl3 hp hshut hrow5)
   obtain⟨W6,hW6⟩:∃ W6,W6=w5.setCell ⟨g,4,none⟩ (.int .i64 (wrap64 (dp5 - 1))):=⟨_,rfl⟩;have hz6:W6.heap.size=w5.heap.size:=by rw[hW6];simp[World.setCell]
   have hS6:Rp W6 g len T wd RS.2:=by rw[zu HRS,hW6];exact zu HShut w5 (Gr.refl _ _) rfl
   have hG56:Gr g w5 W6:=by rw[hW6];exact(Gr.refl _ _).set (p:=⟨g,_,none⟩) (Or.inr rfl) _
   rw[← hW6];have hfin:RNode w g len T wd RS (.returned (nodV 14 15 zE 0 (.slice (some ⟨w5.heap.size,0,none⟩) 1 1))) (((set5 W6 w.heap.size 14 15 zE 0 (.slice (some ⟨w5.heap.size,0,none⟩) 1 1)).alloc (nodO k2 o2 s2 n2 (.slice a2 l2.length cap2))).alloc (nodO 14 15 zE 0 (.slice (some ⟨w5.heap.size,0,none⟩) 1 1))):=by
    rw[set5_alloc (by omega),set5_alloc (by rw[size_alloc];omega)];have X8:Ext W6 ((W6.alloc (nodO k2 o2 s2 n2 (.slice a2 l2.length cap2))).alloc (nodO 14 15 zE 0 (.slice (some ⟨w5.heap.size,0,none⟩) 1 1))):=(Ext.alloc _ _).trans (Ext.alloc _ _);have hrow8:((W6.alloc (nodO k2 o2 s2 n2 (.slice a2 l2.length cap2))).alloc (nodO 14 15 zE 0 (.slice (some ⟨w5.heap.size,0,none⟩) 1 1))).heap[w5.heap.size]? = some (nodO k2 o2 s2 n2 (.slice a2 l2.length cap2)):=(Ext.alloc _ _).row (by rw[← hz6];exact Go.heap_alloc_new W6 _);have hz8:((W6.alloc (nodO k2 o2 s2 n2 (.slice a2 l2.length cap2))).alloc (nodO 14 15 zE 0 (.slice (some ⟨w5.heap.size,0,none⟩) 1 1))).heap.size=w5.heap.size+2:=by rw[size_alloc,size_alloc,hz6]
    refine rnode_end (l:=[⟨k2,o2,s2,n2,l2⟩]) hg (hS6.ext X8) (((zu G5).trans hG56).trans (Gr.of X8)) (Nat.le_refl _) ?_ (fun e => ?_)
    ·refine one_repR hrow8 ⟨by omega,by omega⟩ hcap2 (RepNL.to (fun b hb => ?_) _ _ (zu L5))
     have h1:=hb.1;have h2:=hb.2;exact⟨⟨by omega,by omega⟩,(X8.block b (by omega)).trans (hG56.block b h2 (by omega))⟩
    ·rw[zu HRS] at e ⊢
     rw[zu P5 e];rfl
   have hrowF:(((set5 W6 w.heap.size 14 15 zE 0 (.slice (some ⟨w5.heap.size,0,none⟩) 1 1)).alloc (nodO k2 o2 s2 n2 (.slice a2 l2.length cap2))).alloc (nodO 14 15 zE 0 (.slice (some ⟨w5.heap.size,0,none⟩) 1 1))).heap[w.heap.size]? = some (nodO 14 15 zE 0 (.slice (some ⟨w5.heap.size,0,none⟩) 1 1)) :=
    (Ext.alloc _ _).row ((Ext.alloc _ _).row (set5_row (hG56.row (zu RB) (by omega)) _ _ _ _ _))
   exact bodyPost_ret (v:=nodV 14 15 zE 0 (.slice (some ⟨w5.heap.size,0,none⟩) 1 1)) (res_nodR Tryz.results117 _ _ w.heap.size _ _ _ _ _ rfl hrowF) rfl hfin
end
section
variable {w w':World} {g len:Nat} {T:List Tk} {wd:Int} {st:PS}
def RList (w:World) (g len:Nat) (T:List Tk) (wd:Int) (r:List PN × PS) (e:Ending) (w':World):Prop :=
 ∃ ps a cap,e = .returned (.slice a ps.length cap)∧ps.length≤cap∧RepNL w' (Fr w.heap.size w'.heap.size) ps a∧(r.2.e=0→ps=r.1)∧Rp w' g len T wd r.2∧Gr g w w'
structure RMoI (g len:Nat) (T:List Tk) (wd:Int) (ex:Rdr) (w wr:World) (F:List PN × PS) (stc:PS) (k:Nat) (acc:List PN) (ao:Option Addr) (cap:Nat):Prop where
 eq:F=moreP len ex k (acc++[(ex stc).1]) (ex stc).2
 fuel:stc.ts.length < k
 bnd:acc.length+stc.ts.length≤100001
 ok:stc.e=0
 rs:Rp wr g len T wd stc
 hold:Hold g w wr acc ao cap
theorem Rp.grown {wa wb:World} {base:Nat} {e:TypeId} {size:Nat} {v:Value} {n:Nat} {xs:List Value} (h:Rp wa g len T wd st) (hg:g < base) (ho:wa.ownsRow base e size v n xs) (k:wa.grownBy wb v.ownBlock):Rp wb g len T wd st:=by
 have hne:∀ b,b≤g→some b≠v.ownBlock:=fun b hb e=>by have:=(ho.lt b e.symm).1;omega
 obtain⟨V,i,pl,dp,h1,⟨a,cap,rfl,q1,q2,q3⟩,h3⟩:=h.ex;refine⟨⟨_,i,pl,dp,(k.block g h.lt (hne g (Nat.le_refl _))).trans h1,⟨a,cap,rfl,q1,q2,?_⟩,h3⟩,h.nv,h.tk,h.tl⟩;rcases q3 with q3 | ⟨b',off,rfl,hb',hc⟩
 ·exact Or.inl q3
 ·refine Or.inr ⟨b',off,rfl,hb',fun j u hu => ?_⟩
  have hlt:=h.lt;rw[World.cell?_of_block (w:=wa) (k.block b' (by omega) (hne b' (by omega)))];exact hc j u hu
theorem rmore_snoc {wr w2 w3:World} {acc:List PN} {ao:Option Addr} {cap g' cap':Nat} {k o n:Int} {s:ByteArray} {l:List PN} {a:Option Addr} {c:Nat} {xs:List Value} {st2:PS}
  (hg:g < w.heap.size) (hH:Hold g w wr acc ao cap) (hW:Gr g wr w2) (hS:Rp w2 g len T wd st2) (hc:l.length≤c) (hl:RepNL w2 (Fr wr.heap.size w2.heap.size) l a) (ob:Obj)
  (hx:(w2.alloc ob).ownsRow w.heap.size 46 5 (.slice ao acc.length cap) acc.length xs∧RowN (w2.alloc ob) (fun b=>w.heap.size≤b∧b < (w2.alloc ob).heap.size∧some b≠(Value.slice ao acc.length cap).ownBlock) acc xs)
  (ho:w3.ownsRow w.heap.size 46 5 (.slice (some ⟨g',0,none⟩) (acc.length+1) cap') (acc.length+1) (xs++[.int .i64 k,.int .i64 o,.string s,.int .i64 n,.slice a l.length c]))
  (hgw:(w2.alloc ob).grownBy w3 (Value.slice ao acc.length cap).ownBlock) (hw0:(Value.slice ao acc.length cap).ownBlock=some g'∨w2.heap.size+1≤g') :
  Hold g w w3 (acc++[⟨k,o,s,n,l⟩]) (some ⟨g',0,none⟩) cap'∧Rp w3 g len T wd st2:=by
 have hw:(Value.slice ao acc.length cap).ownBlock=some g'∨(w2.alloc ob).heap.size≤g':=by rw[size_alloc];exact hw0
 have hgr:Gr g w (w2.alloc ob):=(hH.gr.trans hW).alloc ob;refine⟨Hold.snoc (p:=⟨k,o,s,n,l⟩) hgr hg hx.1 hx.2 ho hc (RepNL.to (fun b hb=>⟨⟨?fa,?fb,?fc⟩,?fd⟩) _ _ hl) hgw hw,(hS.ext (Ext.alloc _ ob)).grown hg hx.1 hgw⟩
 case fa=>have:=hH.gr.size;have:=hb.1;omega
 case fb=>have:=hb.2;simp;omega
 case fc =>
  intro e;obtain⟨ys,hy,_⟩:=hH.own;have:=(hy.lt b e.symm).2;have:=hb.1;omega
 case fd=>exact(Ext.alloc w2 ob).block b hb.2
theorem rest_r (f:Nat) (ex:Rdr) (hge:GoodR ex) (hse:Shorter ex) (c:ByteArray) (hc:wordL c.toList=false) (h0:st.e=0) (hf:st.ts.length < f) (hf2:f≤100000)
  (hex:∀ s:PS,s.ts.length≤st.ts.length→RIs g len T wd 1 ex s) (h:Rp w g len T wd st) :
  Calls Tryz.prog 146 #[.pointer (some ⟨g,0,none⟩),.string c] w (RList w g len T wd (opsP len ex f c st)):=by
 have hg:g < w.heap.size:=h.lt;have HT:=zh (take_s h c hc);have HC:=zh hc;cases hb:st.isS c
 ·have e1:st.takeS c=(false,st):=by unfold PS.takeS;rw[hb];rfl
  rw[e1] at HT;have e2:opsP len ex f c st=((moreP len ex f [(ex st).1] (ex st).2).1,(moreP len ex f [(ex st).1] (ex st).2).2.sign len c):=by unfold opsP;rw[e1]
  rw[e2];obtain⟨F,hF⟩:∃ F,F=moreP len ex f [(ex st).1] (ex st).2:=⟨_,rfl⟩;rw[← hF];have HF:=zh hF;have HX:=zh hex;have HSH:=zh hse;have HGE:=zh hge;have H0:=zh h0;clear hF e1 e2 hb hex hse hge h h0;obtain⟨i0,hi,hz0,hz1,hz2⟩:=info_parts infoN;have HI:=zh hi;have Z0:=zh hz0;have Z1:=zh hz1;have Z2:=zh hz2;clear hi hz0 hz1 hz2
  go_enter Tryz.func146,Tryz.ntmps146
  go_wp2_with (first
   | (go_at_call 35;refine Calls.mono (zu HT) ?_;rintro e w1 ⟨rfl,hs,hw⟩;have MI:Hd (RMoI g len T wd ex w w1 F st f [] none 0):=(⟨zu HF,hf,by simp;omega,zu H0,hs,Hold.start hw⟩);clear hw hs))
  clear HT
  go_loopw [5] (fun t wr => ∃ (acc:List PN) (ao:Option Addr) (cap:Nat) (stc:PS) (j:Nat),t = .slice ao acc.length cap∧Hd (RMoI g len T wd ex w wr F stc j acc ao cap)∧stc.ts.length≤st.ts.length) (fun _ wr=>rleft g T.length wr)
  case atStart=>exact⟨[],none,0,st,f,rfl,MI,Nat.le_refl _⟩
  case round =>
   clear MI HF;obtain⟨acc,ao,cap,stc,j,rfl,hM,hle⟩:=hrel;have hfu:=(zu hM).fuel;have hok:=(zu hM).ok;have hbd:=(zu hM).bnd;have hnv:=(zu hM).rs.nv;obtain⟨j,rfl⟩:∃ i,j=i+1:=⟨j - 1,by omega⟩;obtain⟨V,i,pl,dp,hrow,-⟩:=(zu hM).rs.ex;rw[hok] at hrow;obtain⟨c0,c1,c2,c3,c4,c5,c6,zf⟩:=rp_c hrow;have HX1:=zh (zu HX stc hle wr (zu hM).rs);have hl1:=zu HSH stc;have hk1:=zu HGE stc hnv;have hm0:=rleft_eq (zu hM).rs;rw[if_pos hok] at hm0;have HEq:=zh (zu hM).eq;obtain⟨xs,hx⟩:∃ xs,wr.ownsRow w.heap.size 46 5 (.slice ao acc.length cap) acc.length xs∧RowN wr (fun b=>w.heap.size≤b∧b < wr.heap.size∧some b≠(Value.slice ao acc.length cap).ownBlock) acc xs:=(zu hM).hold.own;have HXS:=zh (fun w2 (x:Gr g wr w2)=>held_on hx x hg);clear hx hrow c0 c1 c3 c4 c5 c6 zf
   generalize ex stc=q at HX1 HEq hl1 hk1;obtain⟨pn1,st4⟩:=q;have hnv4:=hk1.nv hnv;simp only at hl1 hk1 hnv4;generalize hA:acc.length=A at *
   go_wp2_with (first
    | (go_at_call 97;refine Calls.mono (zu HX1) ?_;rintro e w5 ⟨v,p5,rfl,hr,hp,hs,hw⟩;obtain⟨k1,o1,s1,n1,l1⟩:=p5;rw[RepN] at hr;obtain⟨a5,cap5,rfl,hcap5,hl5⟩:=hr;have S5:=zh hs;have P5:=zh hp;have L5:=zh hl5;have X5:=zh hw;clear hw hs hl5 hp)
    | (at_builtin;refine wpList_append_where rfl (.tmp 14) (.tmp 17) 44 rfl w.heap.size 46 i0 (nodV 0 0 zE 0 (.slice none 0 0)) 5 64 Tryz.underlying44 (zu HI) (zu Z0) (zu Z1) (zu Z2) rfl (by decide) ao A cap xs rfl (zu HXS _ ((zu X5).alloc _)).1 ⟨w5.heap.size,0,none⟩ 1 1 [.int .i64 k1,.int .i64 o1,.string s1,.int .i64 n1,.slice a5 l1.length cap5] rfl (by decide) rfl (cells_new w5 _ _) (one_cells _ _ _ _ _ _ _) ?c1 ?c2 ?c3 ?_))
   case c1=>unfold maxLen;omega
   case c2=>omega
   case c3=>have:=(zu hM).hold.gr.size;have:=(zu X5).size;simp;omega
   intro g2 cap6 w6 ho6 hg6 hw6;subst hA;have hN:=rmore_snoc (k:=k1) (o:=o1) (n:=n1) (s:=s1) hg (zu hM).hold (zu X5) (zu S5) hcap5 (zu L5) _ (zu HXS _ ((zu X5).alloc _)) ho6 hg6 hw6;have hln:(acc++[(⟨k1,o1,s1,n1,l1⟩:PN)]).length=acc.length+1:=by simp
   have H6:=zh hN.1;have HTC:=zh (take_s hN.2 ⟨#[44]⟩ (by decide +kernel));clear ho6 hg6 hw6 hN;cases hb:st4.isS ⟨#[44]⟩
   ·have e1:st4.takeS ⟨#[44]⟩=(false,st4):=by unfold PS.takeS;rw[hb];rfl
    rw[e1] at HTC;have hF2:F=(acc++[pn1],st4):=by rw[zu HEq,moreP,e1]
    subst hF2;have HG:=zh (fun W (x:Rp W g len T wd st4)=>want_s x c (zu HC));have HKS:=zh (psign_kp hnv4 len c);clear e1 hb HEq
    go_wp2_with (first
     | (go_at_call 35;refine Calls.mono (zu HTC) ?_;rintro e w7 ⟨rfl,hs,hw⟩;have S7:=zh hs;have X7:=zh hw;clear hw hs)
     | (go_at_call 33;refine Calls.mono (zu HG _ (zu S7)) ?_;rintro e w8 ⟨rfl,hs,hw⟩;have S8:=zh hs;have X8:=zh ((zu X7).trans hw);clear hw hs))
    go_ret;obtain⟨d1,d2⟩:=((zu H6).on (zu X8) hg).done;refine⟨acc++[⟨k1,o1,s1,n1,l1⟩],some ⟨g2,0,none⟩,cap6,by rw[hln];rfl,d1,d2,fun e => ?_,zu S8,(zu H6).gr.trans (zu X8)⟩;rw[zu P5 ((zu HKS).ok e).1]
   ·have e1:st4.takeS ⟨#[44]⟩=(true,st4.next):=by unfold PS.takeS;rw[hb];rfl
    rw[e1] at HTC;have hlt:=next_lt hb;have h40:st4.e=0:=by
     cases Decidable.em (st4.e=0) with
     | inl h=>exact h
     | inr h=>exact absurd (hnv4.nil h) (isS_ne hb)
    have hF2:F=moreP len ex j ((acc++[(⟨k1,o1,s1,n1,l1⟩:PN)])++[(ex st4.next).1]) (ex st4.next).2:=by rw[zu HEq,moreP,e1,zu P5 h40]
    have HF2:=zh hF2;clear e1 hb hF2 HEq
    go_wp2_with (first
     | (go_at_call 35;refine Calls.mono (zu HTC) ?_;rintro e w7 ⟨rfl,hs,hw⟩;have MN:Hd (RMoI g len T wd ex w w7 F st4.next j (acc++[⟨k1,o1,s1,n1,l1⟩]) (some ⟨g2,0,none⟩) cap6):=(⟨zu HF2,by omega,by rw[hln];omega,h40,hs,(zu H6).on hw hg⟩);clear hw hs))
    have hm1:=rleft_eq (zu MN).rs
    go_roundw
    case rel=>exact⟨_,_,_,st4.next,j,by rw[hln],MN,by omega⟩
    case measure =>
     rw[hm0,hm1]
     split <;> omega
 ·have e1:st.takeS c=(true,st.next):=by unfold PS.takeS;rw[hb];rfl
  rw[e1] at HT;have e2:opsP len ex f c st=([],st.next):=by unfold opsP;rw[e1]
  rw[e2];clear e1 e2 hb hex hse hge h
  go_enter Tryz.func146,Tryz.ntmps146
  go_wp2_with (go_at_call 35;refine Calls.mono (zu HT) ?_;rintro e w1 ⟨rfl,hs,hw⟩;have S1:=zh hs;have X1:=zh hw;clear hw hs)
  go_ret;exact⟨[],none,0,rfl,Nat.le_refl _,by simp[RepNL],fun _=>rfl,zu S1,zu X1⟩
end
section
variable {w w':World} {g len:Nat} {T:List Tk} {wd:Int} {st:PS}
theorem noS {st:PS} (h:(hdT st.ts 0).k≠6) (s:ByteArray):st.isS s=false:=by
 unfold PS.isS isT;have:((hdT st.ts 0).k == 6)=false:=by simpa using h
 rw[this];rfl
theorem noW {st:PS} (h:(hdT st.ts 0).k≠2) (s:ByteArray):st.isW s=false:=by
 unfold PS.isW isT;have:((hdT st.ts 0).k == 2)=false:=by simpa using h
 rw[this];rfl
theorem noC {st:PS} (h:(hdT st.ts 0).k≠1):st.isCall=false:=by
 unfold PS.isCall;have:((hdT st.ts 0).k == 1)=false:=by simpa using h
 rw[this];rfl
theorem Rp.step2 (h:Rp w g len T wd st) (h0:st.e=0) {x y:Tk} {r:List Tk} (hts:st.ts=x :: y :: r):∃ i:Nat,w.cell? ⟨g,1,none⟩=some (.int .i64 (i:Int))∧i < 4001 ∧
  ∀ W,Gr g w W→W.heap[g]? = w.heap[g]?→Rp (W.setCell ⟨g,1,none⟩ (.int .i64 ((i:Int)+2))) g len T wd st.next.next:=by
 obtain⟨V,i,pl,dp,h1,h2,h3,h4,h5⟩:=h.ex;obtain⟨h6,rfl⟩:=h4 h0;have htl:=h.tl;have hi:i+1 < T.length:=by
  have:=congrArg List.length (h6.trans hts);rw[List.length_drop] at this;simp at this;omega
 have hn1:=(next_kp h.nv);have hn2:=(next_kp (hn1.nv h.nv));refine⟨i,zr h1 1 rfl,by omega,fun W k hg => ?_⟩;have r2:=row_set (hg.trans h1) 1 (.int .i64 ((i:Int)+2));refine⟨⟨V,i+2,pl,st.op,r2,?_,by omega,fun _=>⟨?_,rfl⟩,fun e=>absurd h0 e⟩,hn2.nv (hn1.nv h.nv),h.tk,h.tl⟩
 ·exact h2.on (k.set (p:=⟨g,1,none⟩) (Or.inr rfl) _)
 ·show T.drop (i+2)=st.ts.tail.tail
  rw[← h6,List.tail_drop,List.tail_drop]
theorem rlist_end {w5 W6:World} {r:PN × PS} {k o n:Int} {s:ByteArray} {a:Option Addr} {cap:Nat} {ps:List PN} {nb:Obj} {b0:Nat} (hg:g < w.heap.size) (hz5:w.heap.size < b0) (hz6:W6.heap.size=w5.heap.size) (hS6:Rp W6 g len T wd r.2) (hG5:Gr g w w5) (hG56:Gr g w5 W6) (hc:ps.length≤cap) (hl:RepNL w5 (Fr b0 w5.heap.size) ps a) (hb0:w.heap.size < w5.heap.size) (hp:r.2.e=0→(⟨k,o,s,n,ps⟩:PN)=r.1) :
  RNode w g len T wd r (.returned (nodV k o s n (.slice a ps.length cap))) ((set5 W6 w.heap.size k o s n (.slice a ps.length cap)).alloc nb):=by
 rw[set5_alloc (by omega)];have hzz:(W6.alloc nb).heap.size=w5.heap.size+1:=by rw[size_alloc,hz6]
 refine rnode_end hg (hS6.ext (Ext.alloc _ nb)) ((hG5.trans hG56).trans (Gr.of (Ext.alloc _ nb))) hc (RepNL.to (fun b hb => ?_) _ _ hl) hp;have h1:=hb.1;have h2:=hb.2;exact⟨⟨by omega,by omega⟩,((Ext.alloc W6 nb).block b (by omega)).trans (hG56.block b h2 (by omega))⟩
end
end Go.Proofs.YtjnpehohialmbaaGreat
