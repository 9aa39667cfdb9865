/- The document's way through a tree: a let. -/
import Derived.Deep.LoopGhost
import Derived.Test.YtjnpehohialmbaaGreatZs24
set_option linter.unusedSimpArgs false
set_option linter.unusedVariables false
set_option maxRecDepth 10000
set_option maxHeartbeats 4000000
namespace Go.Proofs.YtjnpehohialmbaaGreat
open Go.RowKit
section
open Go.RowKit Go.Maps
variable {g:Nat} {w w' w2:World} {fv:Value} {fs:List PFn} {d:DK}
theorem walk_let {F:Nat} {o n:Int} {s:ByteArray} {l:List PN} {v:Value} (hfl:fs.length≤100000) (hps:∀ p ∈ fs,p.ps.length≤100000) (hw:∀ x ∈ l,WkOf g fv fs F x) (h:CK g w fv fs d) (hr:RepN w (fun b=>b < g) ⟨1,o,s,n,l⟩ v) (he:d.e=0) (hb1:d.see.length+nszL l < 100000) (hb2:d.sl.length+nszL l < 100000) (hb3:d.cl.length+nszL l < 100000) (hb4:0≤d.lp) (hb5:d.lp+nszL l < 100000) (hb6:0≤d.lc) (hb7:d.lc+nszL l < 100000) (hll:l.length≤100000) :
  Calls Tryz.prog 39 #[.pointer (some ⟨g,0,none⟩),v] w (CAns g w fv fs (dEnd fs 1 s l.length d.see.length (l.foldl (fun d x=>dW fs F x d) (dBeg 1 s d)))):=by
 have hg:=h.lt;rw[RepN] at hr;obtain⟨a,cap,rfl,hcap,hl⟩:=hr;have hlenz:∀ j,nszL (l.take j)≤nszL l:=fun j=>by
  have h9:=nszL_append (l.take j) (l.drop j);rw[List.take_append_drop] at h9;omega
 have hatz:∀ (j:Nat) (x:PN),l[j]? = some x→nszL (l.take j)+nsz x≤nszL l:=fun j x hx=>by
  have hlt:=(List.getElem?_eq_some_iff.1 hx).1;have h9:=nszL_append (l.take j) (l.drop j);rw[List.take_append_drop,List.drop_eq_getElem_cons hlt,(List.getElem?_eq_some_iff.1 hx).2,nszL] at h9;omega
 have hbg:dBeg 1 s d=d:=by unfold dBeg;rw[if_neg (by decide)]
 rw[hbg];obtain⟨mk,hmk⟩:∃ mk,mk=d.see.length:=⟨_,rfl⟩;rw[← hmk];have X0:Ext w (w.alloc (nodO 1 o s n (.slice a l.length cap))):=Ext.alloc _ _;have HB:=zh (Go.heap_alloc_new w (nodO 1 o s n (.slice a l.length cap)));have HL0:=zh ((CF.of hg X0).repL hl);have HK0:=zh (h.ext X0);have HX0:=zh (CF.of hg X0);obtain⟨d0,hd0⟩:∃ d0,d0=d:=⟨_,rfl⟩;rw[← hd0];have hs0:d0.see=d.see:=by rw[hd0]
 have hs1:d0.sl.length≤d.sl.length+1:=by rw[hd0];omega
 have hs2:d0.cl=d.cl:=by rw[hd0]
 have hs3:d0.lc=d.lc:=by rw[hd0]
 have hs4:d0.lp=d.lp:=by rw[hd0]
 have HFO:=zh (fun (j:Nat)=>fold_le fs F (fun q e=>dW_le fs F q e) (l.take j) d0);have HPRE:=zh (fold_pre fs F (fun q e=>dW_pre fs F q e) l d0);have hwk:∀ (wr:World) (j:Nat) (x:PN) (u:Value),l[j]? = some x→CK g wr fv fs ((l.take j).foldl (fun d x=>dW fs F x d) d0)→RepN wr (fun b=>b < g) x u→Calls Tryz.prog 39 #[.pointer (some ⟨g,0,none⟩),u] wr (CAns g wr fv fs ((l.take (j+1)).foldl (fun d x=>dW fs F x d) d0)):=fun wr j x u hx k r=>by
  have hlt:=(List.getElem?_eq_some_iff.1 hx).1;have e9:l.take (j+1)=l.take j++[x]:=by rw[List.take_succ_eq_append_getElem hlt,(List.getElem?_eq_some_iff.1 hx).2]
  rw[e9,List.foldl_append,List.foldl_cons,List.foldl_nil];have f9:=zu HFO j;have z9:=hatz j x hx;have f1:=f9.see;have f2:=f9.sl;have f3:=f9.cl;have f4:=f9.lc;have f5:=f9.lc0;have f6:=f9.lp;rw[hs0] at f1;rw[hs2] at f3;rw[hs3] at f4 f5;rw[hs4] at f6;exact hw x (List.mem_of_getElem? hx) wr _ u k r (by omega) (by omega) (by omega) (by omega) (by omega) (by omega) (by omega)
 have HWK:=zh hwk;obtain⟨sa,ns,sc,ca,nc,cc,ea,ne,ec,h⟩:=h;have hne:=h.hne;have hrow:=h.row;rw[he] at hrow;obtain⟨c0,c1,c2,c3,c4,c5,c6,zf⟩:=ck_c hrow;obtain⟨d2,hd2⟩:∃ d2,d2=l.foldl (fun d x=>dW fs F x d) d0:=⟨_,rfl⟩;rw[← hd2];have HD2:Hd (∀ j,j=l.length→(l.take j).foldl (fun d x=>dW fs F x d) d0=d2):=fun j hj=>by rw[hj,List.take_length,hd2]
 have hpre:d.see.length≤d2.see.length:=by
  have h9:=(zu HPRE).length_le;rw[← hd2,hs0] at h9;exact h9
 have hall:=zu HFO l.length;rw[List.take_length,← hd2] at hall;have A1:=hall.see;have A2:=hall.sl;have A3:=hall.cl;have A4:=hall.lc;have A5:=hall.lc0;rw[hs0] at A1;rw[hs2] at A3;rw[hs3] at A4 A5;rw[hne] at hpre A1 hmk;have hmk2:=hmk.symm;clear hmk;subst hmk2;obtain⟨II0,hi,hz0,hz1,hz2⟩:=info_parts infoI;have HII:=zh hi;have ZII0:=zh hz0;have ZII1:=zh hz1;have ZII2:=zh hz2;clear hi hz0 hz1 hz2;obtain⟨SS0,hi,hz0,hz1,hz2⟩:=info_parts infoSe;have HSS:=zh hi;have ZSS0:=zh hz0;have ZSS1:=zh hz1;have ZSS2:=zh hz2;clear hi hz0 hz1 hz2;clear h hrow hl X0 hd2 hwk hw hlenz hatz hbg HFO HPRE hall he;generalize hM:l.length=m at *;have hwg:(w.heap.size == g)=false:=by simp;omega
 go_enter Tryz.func39,Tryz.ntmps39
 go_wp2_with fail
 obtain⟨W1,hW1⟩:∃ W1,W1=w.alloc (nodO 1 o s n (.slice a m cap)):=⟨_,rfl⟩;have K1:Hd (CK g W1 fv fs d0):=by rw[Hd,hW1,hd0];exact zu HK0
 have F1:Hd (CF g w W1):=by rw[Hd,hW1];exact zu HX0
 have RB:Hd (W1.heap[w.heap.size]? = some (nodO 1 o s n (.slice a m cap))):=by rw[Hd,hW1];exact zu HB
 have LR:Hd (RepNL W1 (fun b=>b < g) l a):=by rw[Hd,hW1];exact zu HL0
 rw[← hW1];clear hW1;clear HK0 HX0 HB HL0 hd0 c0 c1 c2 c3 c4 c5 c6 zf
 go_loopw [5] (fun t wr => ∃ (j:Nat),t = .int .i64 j∧j≤m∧Hd (CF g W1 wr)∧Hd (CK g wr fv fs ((l.take j).foldl (fun d x=>dW fs F x d) d0))) (fun t _=>m - (intOf t).toNat)
 case atStart=>exact⟨0,rfl,Nat.zero_le _,CF.refl _ _,by rw[Hd,List.take_zero];exact zu K1⟩
 case round =>
  obtain⟨j,rfl,hj,hF,hK⟩:=hrel;have hRB:=(zu hF).rowN (by show w.heap.size≠g;omega) (zu RB);have b0:=zr hRB 0 rfl;have b1:=zr hRB 1 rfl;have b2:=zr hRB 2 rfl;have b3:=zr hRB 3 rfl;have b4:=zr hRB 4 rfl;clear hRB;by_cases hlt:j < m
  ·obtain⟨x,hx⟩:∃ x,l[j]? = some x:=⟨_,List.getElem?_eq_getElem (by omega)⟩
   obtain⟨b,off,x0,x1,x2,x3,x4,rfl,hbl,r,e0,e1,e2,e3,e4⟩:=repNL_at ((zu hF).repL (zu LR)) j x hx;have HX:=zh (zu HWK wr j x _ hx (zu hK) r);clear r hx hbl
   go_wp2_with (go_at_call 39;refine Calls.mono (zu HX) ?_;rintro e w2 ⟨rfl,hk,hcf⟩;have K2:=zh hk;have F2:=zh ((zu hF).trans hcf);clear hk hcf)
   go_roundw
   case rel=>exact⟨j+1,by go_num,by omega,F2,K2⟩
   case measure=>simp[intOf];omega
  ·have hK2:=zu hK
   rw[zu HD2 j (by omega)] at hK2;have HK2:=zh hK2;have HF2:=zh ((zu F1).trans (zu hF));have hlp:j=m:=by omega
   clear hK hF K1 F1 LR RB HWK hK2;have hE:dEnd fs 1 s m ne d2=d2.letD s:=by unfold dEnd;rw[if_pos rfl]
   have HE0:=zh hE;clear hE;by_cases he2:d2.e=0
   case neg =>
    have hL:d2.letD s=d2:=by unfold DK.letD;rw[if_pos he2]
    have HEQ:=zh ((zu HE0).trans hL);have hea:(d2.e == 0)=false:=by simpa using he2
    obtain⟨sa2,ns2,sc2,ca2,nc2,cc2,ea2,ne2,ec2,hS⟩:=zu HK2;obtain⟨c0,c1,c2,c3,c4,c5,c6,zf⟩:=ck_c hS.row;clear hS hL he2
    go_wp2_with fail
    go_end0
    exact⟨rfl,by rw[zu HEQ];exact zu HK2,zu HF2⟩
   have HFI:=zh (find_c (zu HK2) (by omega) s);obtain⟨sa2,ns2,sc2,ca2,nc2,cc2,ea2,ne2,ec2,hS⟩:=zu HK2;have hrow:=hS.row;rw[he2] at hrow;have HRW:=zh hrow;have HS:=zh hS;obtain⟨c0,c1,c2,c3,c4,c5,c6,zf⟩:=ck_c hrow;have hge:=hS.lt;have hns2:=hS.hns;have hne2:=hS.hne;have hg2:g < wr.heap.size:=hge;cases hf:fnd d2.see s with
   | some v =>
    have hL:d2.letD s = { d2 with e:=11 }:=by unfold DK.letD;rw[if_neg (by simp[he2]),hf];rfl
    have hv:fndV d2.see s=v:=by unfold fndV;rw[hf]
    have hpos:=fnd_pos hS.pos hf;have HEQ:=zh ((zu HE0).trans hL);rw[hv] at HFI;have hd0:decide (0≤v)=true:=by simp;omega
    clear hL hv hf hS hrow he2
    go_wp2_with (go_at_call 38;refine Calls.mono (zu HFI) ?_;rintro e w3 ⟨rfl,hw3⟩;have X3:=zh hw3;obtain⟨c0,c1,c2,c3,c4,c5,c6,zf⟩:=ck_c (hw3.row (zu HRW));clear hw3)
    go_end0
    exact⟨rfl,by rw[zu HEQ];exact⟨_,_,_,_,_,_,_,_,_,((zu HS).ext (zu X3)).setE 11⟩,((zu HF2).trans (CF.of hg2 (zu X3))).set 6 _⟩
   | none =>
    have hL:d2.letD s = { d2 with see:=d2.see++[(s,d2.lc)],sl:=d2.sl++[d2.lc],lc:=d2.lc+1 }:=by unfold DK.letD;rw[if_neg (by simp[he2]),hf];rfl
    have hv:fndV d2.see s = -1:=by unfold fndV;rw[hf]
    have HEQ:=zh ((zu HE0).trans hL);rw[hv] at HFI;have hlc0:0≤d2.lc:=by omega
    have hlc1:d2.lc≤100000:=by omega
    clear hL hv hf hS hrow he2
    go_wp2_with (go_at_call 38;refine Calls.mono (zu HFI) ?_;rintro e w3 ⟨rfl,hw3⟩;have X3:=zh hw3;have HRW3:=zh (hw3.row (zu HRW));obtain⟨c0,c1,c2,c3,c4,c5,c6,zf⟩:=ck_c (zu HRW3);have b0:=hw3.cell b0;have b1:=hw3.cell b1;have b2:=hw3.cell b2;have b3:=hw3.cell b3;have b4:=hw3.cell b4;have S3:=zh ((zu HS).ext hw3);clear hw3)
    have S4:Hd (∀ ob,CS g (w3.drew.alloc ob) fv fs d2 sa2 ns2 sc2 ca2 nc2 cc2 ea2 ne2 ec2):=fun ob=>((zu S3).ext (Ext.drew (Ext.refl _))).ext (Ext.alloc _ ob);have hg3:g < w3.heap.size:=(zu S3).lt;refine wp_nrm ?_
    first | skip;go_region_law (first
     | (refine step_append_where rfl (.tmp 106) (.tmp 115) 116 rfl (g+1) 121 SS0 (.agg #[.string zE,.int .i64 0]) 2 24 Tryz.underlying116 (zu HSS) (zu ZSS0) (zu ZSS1) (zu ZSS2) rfl (by decide) ea2 ne2 ec2 (d2.see.flatMap seC) (by simp[Act.eval,Act.put]) (zu S4 _).ose ⟨w3.heap.size,0,none⟩ 1 1 [.string s,.int .i64 d2.lc] (by simp[Act.eval,Act.put]) (by decide) rfl (cells_new w3.drew _ _) (one_see _ _) (by unfold maxLen;omega) (by omega) (by simp;omega) ?_;intro g2 cap6 w6 ho6 hg6 hw6;have hrow6:=row_grow (zu S4 _).ose hg6 (zu S4 _).row;obtain⟨z0,z1,z2,z3,z4,z5,z6,zzf⟩:=ck_c hrow6;have HP:=zh (CS.pushSee (zu S4 _) hlc0 ho6 hg6);clear ho6 hg6 hw6 hrow6)) | fail
    all_goals
     refine nrm_inC ?_
     go_wp2_with fail
     refine gen_world (F:=fun W=>Code.wp _ _ _ _ W) ?_;intro W5 hW5;have S5:Hd (CS g W5 fv fs { d2 with see:=d2.see++[(s,d2.lc)] } sa2 ns2 sc2 ca2 nc2 cc2 (some ⟨g2,0,none⟩) (ne2+1) cap6):=by rw[Hd,hW5];exact(zu HP).1
     have F5:Hd (CF g w W5):=by rw[Hd,hW5];exact(((zu HF2).trans (CF.of hg2 ((zu X3).trans ((Ext.drew (Ext.refl _)).trans (Ext.alloc _ _))))).trans (zu HP).2)
     clear hW5 HP z0 z1 z2 z3 z4 z5 z6 zzf c0 c1 c2 c3 c4 c5 c6 zf;have hrow5:=(zu S5).row;obtain⟨c0,c1,c2,c3,c4,c5,c6,zf⟩:=ck_c hrow5;have hg5:g < W5.heap.size:=(zu S5).lt;clear hrow5;have S6:Hd (∀ ob,CS g (W5.drew.alloc ob) fv fs { d2 with see:=d2.see++[(s,d2.lc)] } sa2 ns2 sc2 ca2 nc2 cc2 (some ⟨g2,0,none⟩) (ne2+1) cap6):=fun ob=>((zu S5).ext (Ext.drew (Ext.refl _))).ext (Ext.alloc _ ob);refine wp_nrm ?_
     first | skip;go_region_law (first
      | (refine step_append_where rfl (.tmp 124) (.tmp 130) 77 rfl (g+1) 3 II0 (.int .i64 0) 1 8 Tryz.underlying77 (zu HII) (zu ZII0) (zu ZII1) (zu ZII2) rfl (by decide) sa2 ns2 sc2 (inV d2.sl) (by simp[Act.eval,Act.put]) (zu S6 _).osl ⟨W5.heap.size,0,none⟩ 1 1 [.int .i64 d2.lc] (by simp[Act.eval,Act.put]) (by decide) rfl (cells_new W5.drew _ _) (one_int _) (by unfold maxLen;omega) (by omega) (by simp;omega) ?_;intro g7 cap7 w7 ho7 hg7 hw7;have hrow7:=row_grow (zu S6 _).osl hg7 (zu S6 _).row;obtain⟨y0,y1,y2,y3,y4,y5,y6,yzf⟩:=ck_c hrow7;have HP7:=zh (CS.pushSl (zu S6 _) ho7 hg7 hw7);clear ho7 hg7 hw7 hrow7)) | fail
     all_goals
      refine nrm_inC ?_;have hS8:=(zu HP7).1;obtain⟨v0,v1,v2,v3,v4,v5,v6,vz⟩:=ck_c hS8.row;have HS8:=zh (hS8.setLc (d2.lc+1));have F8:=zh (((zu F5).trans (CF.of hg5 ((Ext.drew (Ext.refl _)).trans (Ext.alloc _ _)))).trans (zu HP7).2);clear hS8 y0 y1 y2 y3 y4 y5 y6 yzf
      go_wp2_with fail
      go_end0
      exact⟨rfl,by rw[zu HEQ];exact⟨_,_,_,_,_,_,_,_,_,zu HS8⟩,(zu F8).set 1 _⟩
end
section
open Go.RowKit Go.Maps
variable {g:Nat} {fv:Value} {fs:List PFn}
theorem len_nszL:∀ (l:List PN),l.length≤nszL l
 | []=>Nat.zero_le _
 | p :: l=>by rw[nszL,List.length_cons];have:=nsz_pos p;have:=len_nszL l;omega
theorem walk_all (hfl:fs.length≤100000) (hps:∀ p ∈ fs,p.ps.length≤100000):∀ (F:Nat) (p:PN),nsz p≤F→gX p→WkOf g fv fs F p:=by
 intro F
 induction F with
 | zero=>intro p h;have:=nsz_pos p;omega
 | succ F ih =>
  intro p hF hg w d v h hr b1 b2 b3 b4 b5 b6 b7;by_cases he:d.e=0
  case neg=>exact walk_bad h hr he
  obtain⟨_,hw4,hw5⟩:=hg.props;have hone:∀ x ∈ p.l,WkOf g fv fs F x:=fun x hx=>ih x (by have h1:=nszL_mem hx;have h2:nsz p=1+nszL p.l:=(by cases p;rw[nsz]);omega) (hg.sub hx);obtain⟨k,o,s,n,l⟩:=p;rw[nsz] at b1 b2 b3 b5 b7;have hll:=len_nszL l;simp only at hw4 hw5 hone;by_cases h4:k=4
  ·obtain⟨c,b,rfl,_⟩:=hw4 h4
   subst h4;have hz:nszL [c,b]=nsz c+nsz b:=by rw[nszL,nszL,nszL];omega
   rw[hz] at b1 b2 b3 b5 b7;exact walk_while (hone c (by simp)) (hone b (by simp)) h hr he (by omega) (by omega) (by omega) b4 (by omega) b6 (by omega)
  by_cases h5:k=5∨k=6
  ·rcases h5 with rfl | rfl
   ·exact walk_leave5 h hr he
   ·exact walk_leave6 h hr he
  have e:dW fs (F+1) ⟨k,o,s,n,l⟩ d=dEnd fs k s l.length d.see.length (l.foldl (fun d x=>dW fs F x d) (dBeg k s d)):=by
   rw[dW,if_neg (by simp[he]),if_neg h4,if_neg h5]
  rw[e];by_cases h2:k=2
  ·subst h2;exact walk_use2 hfl hps hone h hr he (by omega) (by omega) (by omega) b4 (by omega) b6 (by omega) (by omega)
  by_cases h19:k=19
  ·subst h19;exact walk_use19 hfl hps hone h hr he (by omega) (by omega) (by omega) b4 (by omega) b6 (by omega) (by omega)
  by_cases h1:k=1
  ·subst h1;exact walk_let hfl hps hone h hr he (by omega) (by omega) (by omega) b4 (by omega) b6 (by omega) (by omega)
  by_cases h10:k=10
  ·subst h10;exact walk_block hfl hps hone h hr he (by omega) (by omega) (by omega) b4 (by omega) b6 (by omega) (by omega)
  by_cases h20:k=20
  ·subst h20;exact walk_call hfl hps hone h hr he (by omega) (by omega) (by omega) b4 (by omega) b6 (by omega) (by omega)
  exact walk_other h1 (fun e=>e.elim h2 h19) h4 h5 h10 h20 hfl hps hone h hr he (by omega) (by omega) (by omega) b4 (by omega) b6 (by omega) (by omega)
def sameN (s:ByteArray) (p:PFn):Bool:=p.nm.data.toList == s.data.toList
theorem nums_bad:∀ (l:List PFn) (i:Nat) (nm0:List (ByteArray × Int)) (pre:List PFn),(∀ s,(lkp nm0 s).isSome=pre.any (sameN s))→∀ (j:Nat) (p:PFn),l[j]? = some p→((biP p.nm).isSome=true∨(pre++l.take j).any (sameN p.nm)=true)→nums l i nm0=none
 | [],i,nm0,pre,h,j,p,hp,hb=>by simp at hp
 | q :: l,i,nm0,pre,h,j,p,hp,hb=>by
  rw[nums]
  split
  ·rfl
  ·rename_i hq
   refine nums_bad l (i+1) _ (pre++[q]) (fun s => ?_) (j - 1) p ?_ ?_
   ·rw[lkp_c,List.any_append,← h s]
    simp only[List.any_cons,List.any_nil,Bool.or_false,sameN];cases (q.nm.data.toList == s.data.toList) <;> simp
   ·cases j with
    | zero =>
     obtain rfl:q=p:=by simpa using hp
     exfalso;apply hq;rcases hb with hb | hb
     ·rw[hb];simp
     ·simp only[List.take_zero,List.append_nil] at hb
      rw[h q.nm,hb];rfl
    | succ j=>simpa using hp
   ·cases j with
    | zero =>
     obtain rfl:q=p:=by simpa using hp
     exfalso;apply hq;rcases hb with hb | hb
     ·rw[hb];simp
     ·simp only[List.take_zero,List.append_nil] at hb
      rw[h q.nm,hb];rfl
    | succ j =>
     rcases hb with hb | hb
     ·exact Or.inl hb
     ·refine Or.inr ?_
      rw[List.take_succ_cons] at hb
      simpa [List.append_assoc] using hb
theorem nums_ok:∀ (l:List PFn) (i:Nat) (nm0:List (ByteArray × Int)) (pre:List PFn),(∀ s,(lkp nm0 s).isSome=pre.any (sameN s))→(∀ (j:Nat) (p:PFn),l[j]? = some p→(biP p.nm).isSome=false∧(pre++l.take j).any (sameN p.nm)=false)→∃ nm,nums l i nm0=some nm
 | [],i,nm0,pre,h,hb=>⟨nm0,rfl⟩
 | q :: l,i,nm0,pre,h,hb=>by
  obtain⟨h1,h2⟩:=hb 0 q rfl;simp only[List.take_zero,List.append_nil] at h2;rw[nums,if_neg (by rw[h q.nm,h2,h1];decide)];refine nums_ok l (i+1) _ (pre++[q]) (fun s => ?_) (fun j p hp => ?_)
  ·rw[lkp_c,List.any_append,← h s]
   simp only[List.any_cons,List.any_nil,Bool.or_false,sameN];cases (q.nm.data.toList == s.data.toList) <;> simp
  ·obtain⟨a,b⟩:=hb (j+1) p (by simpa using hp)
   refine⟨a,?_⟩;rw[List.take_succ_cons] at b
   simpa [List.append_assoc] using b
end
section
open Go.RowKit Go.Maps
abbrev scV (lc:Int) (sa:Option Addr) (sn sc:Nat) (ca:Option Addr) (cn cc:Nat):Value:=.agg #[.int .i64 lc,.slice sa sn sc,.slice ca cn cc]
end
section
open Go.RowKit Go.Maps
def RepI (w:World) (F:Nat→Prop) (a:Option Addr) (l:List Int):Prop:=l = []∨∃ b,a=some ⟨b,0,none⟩∧F b∧∀ j x,l[j]? = some x→w.cell? ⟨b,j,none⟩=some (.int .i64 x)
theorem RepI.to {w w':World} {F F':Nat→Prop} (h:∀ b,F b→F' b∧w'.heap[b]? = w.heap[b]?) {l:List Int} {a:Option Addr} (hr:RepI w F a l):RepI w' F' a l:=by
 rcases hr with hr | ⟨b,rfl,hb,hc⟩
 ·exact Or.inl hr
 ·exact Or.inr ⟨b,rfl,(h b hb).1,fun j x hx=>by rw[World.cell?_of_block (w:=w) (h b hb).2];exact hc j x hx⟩
def RowSc (w:World) (F:Nat→Prop):List PSc→List Value→Prop
 | [],xs=>xs = []
 | p :: ps,xs => ∃ sa sc ca cc rest,xs = [.int .i64 p.lc,.slice sa p.sl.length sc,.slice ca p.cl.length cc]++rest∧p.sl.length≤sc∧RepI w F sa p.sl∧p.cl.length≤cc∧RepI w F ca p.cl∧RowSc w F ps rest
theorem RowSc.to {w w':World} {F F':Nat→Prop} (h:∀ b,F b→F' b∧w'.heap[b]? = w.heap[b]?):∀ {ps:List PSc} {xs:List Value},RowSc w F ps xs→RowSc w' F' ps xs:=by
 intro ps
 induction ps with
 | nil=>intro xs hx;exact hx
 | cons p ps ih =>
  intro xs hx;obtain⟨sa,sc,ca,cc,rest,e,h1,h2,h3,h4,hr⟩:=hx;exact⟨sa,sc,ca,cc,rest,e,h1,h2.to h,h3,h4.to h,ih hr⟩
theorem RowSc.snoc {w:World} {F:Nat→Prop} {p:PSc} {sa ca:Option Addr} {sc cc:Nat} (h1:p.sl.length≤sc) (h2:RepI w F sa p.sl) (h3:p.cl.length≤cc) (h4:RepI w F ca p.cl) :
  ∀ {ps:List PSc} {xs:List Value},RowSc w F ps xs→RowSc w F (ps++[p]) (xs++[.int .i64 p.lc,.slice sa p.sl.length sc,.slice ca p.cl.length cc]):=by
 intro ps
 induction ps with
 | nil =>
  intro xs hx;have:xs = []:=hx;subst this;exact⟨sa,sc,ca,cc,[],by simp,h1,h2,h3,h4,rfl⟩
 | cons q ps ih =>
  intro xs hx;obtain⟨sa',sc',ca',cc',rest,e,k1,k2,k3,k4,hr⟩:=hx;exact⟨sa',sc',ca',cc',rest++_,by rw[e];simp,k1,k2,k3,k4,ih hr⟩
def RepSc (w:World) (F:Nat→Prop) (ps:List PSc) (a:Option Addr):Prop :=
 ps = []∨∃ b xs,a=some ⟨b,0,none⟩∧F b∧RowSc w F ps xs∧∀ j u,xs[j]? = some u→w.cell? ⟨b,j,none⟩=some u
theorem one_sc (lc:Int) (sa:Option Addr) (sn sc:Nat) (ca:Option Addr) (cn cc:Nat):∀ u ∈ ([.int .i64 lc,.slice sa sn sc,.slice ca cn cc]:List Value),u.oneCell' = true:=by
 intro u hu;simp at hu;rcases hu with rfl | rfl | rfl <;> rfl
end
section
open Go.RowKit Go.Maps
theorem docP_bad {fs:List PFn} {j:Nat} {p:PFn} (hp:fs[j]? = some p) (hb:(biP p.nm).isSome=true∨(fs.take j).any (sameN p.nm)=true):docP fs=([],11):=by
 unfold docP;rw[nums_bad fs 0 [] [] (fun s=>rfl) j p hp (by simpa using hb)]
theorem docP_ok {fs:List PFn} (h:∀ (j:Nat) (p:PFn),fs[j]? = some p→(biP p.nm).isSome=false∧(fs.take j).any (sameN p.nm)=false):docP fs=if (dChk fs fs []).2≠0 then ([],(dChk fs fs []).2) else if mainD fs≠0 then ([],mainD fs) else ((dChk fs fs []).1,0):=by
 obtain⟨nm,hn⟩:=nums_ok fs 0 [] [] (fun s=>rfl) (fun j p hp=>by simpa using h j p hp);unfold docP;rw[hn]
theorem dChk_bad {fs l:List PFn} {i:Nat} {p:PFn} {acc:List PSc} (hp:l[i]? = some p) (h:(dFn fs p).2≠0):dChk fs (l.drop i) acc=([],(dFn fs p).2):=by
 have hlt:=(List.getElem?_eq_some_iff.1 hp).1;rw[List.drop_eq_getElem_cons hlt,(List.getElem?_eq_some_iff.1 hp).2,dChk,if_pos h]
theorem dChk_on {fs l:List PFn} {i:Nat} {p:PFn} {acc:List PSc} (hp:l[i]? = some p) (h:(dFn fs p).2=0):dChk fs (l.drop i) acc=dChk fs (l.drop (i+1)) (acc++[(dFn fs p).1]):=by
 have hlt:=(List.getElem?_eq_some_iff.1 hp).1;rw[List.drop_eq_getElem_cons hlt,(List.getElem?_eq_some_iff.1 hp).2,dChk,if_neg (by simp[h])]
theorem prmD_bad {l:List ByteArray} {k:Nat} {s:ByteArray} {see:List (ByteArray × Int)} (hs:l[k]? = some s) (h:(fnd see s).isSome=true):prmD (l.drop k) k see=none:=by
 have hlt:=(List.getElem?_eq_some_iff.1 hs).1;rw[List.drop_eq_getElem_cons hlt,(List.getElem?_eq_some_iff.1 hs).2,prmD,if_pos h]
theorem prmD_on {l:List ByteArray} {k:Nat} {s:ByteArray} {see:List (ByteArray × Int)} (hs:l[k]? = some s) (h:(fnd see s).isSome=false):prmD (l.drop k) k see=prmD (l.drop (k+1)) (k+1) (see++[(s,(k:Int))]):=by
 have hlt:=(List.getElem?_eq_some_iff.1 hs).1;rw[List.drop_eq_getElem_cons hlt,(List.getElem?_eq_some_iff.1 hs).2,prmD,if_neg (by simp[h])]
theorem rowI {w2:World} {base:Nat} {sa:Option Addr} {ns sc:Nat} {l:List Int} (h:w2.ownsRow base 3 1 (.slice sa ns sc) ns (inV l)) (hl:l.length=ns):ns≤sc∧RepI w2 (fun b=>base≤b∧b < w2.heap.size) sa l:=by
 obtain⟨hlen,⟨e,h0⟩ | ⟨b,cap2,cur,e,hb,hrow,hc,_⟩⟩:=id h
 ·exact⟨by omega,Or.inl (List.length_eq_zero_iff.1 (by omega))⟩
 ·injection e with e1 e2 e3
  subst e1 e3;refine⟨hc,Or.inr ⟨b,rfl,⟨hb,(Array.getElem?_eq_some_iff.1 hrow).1⟩,fun j x hx => ?_⟩⟩;have:=cells_own h j (.int .i64 x) (by rw[List.getElem?_map,hx];rfl);rw[Nat.zero_add] at this;exact this
structure QI (w wr:World) (acc:List PSc) (ao:Option Addr) (cap:Nat):Prop where
 ext:Ext w wr
 own:∃ xs,wr.ownsRow w.heap.size 79 3 (.slice ao acc.length cap) acc.length xs∧RowSc wr (fun b=>w.heap.size≤b∧b < wr.heap.size∧some b≠(Value.slice ao acc.length cap).ownBlock) acc xs
theorem QI.nil (w wr:World) (h:Ext w wr):QI w wr [] none 0:=⟨h,[],World.ownsRow_nil _ _ _ _,rfl⟩
theorem QI.fin {w wr:World} {acc:List PSc} {ao:Option Addr} {cap:Nat} (h:QI w wr acc ao cap):acc.length≤cap∧RepSc wr (Fr w.heap.size wr.heap.size) acc ao:=by
 obtain⟨xs,ho,hr⟩:=h.own;obtain⟨hlen,⟨e,h0⟩ | ⟨b,cap2,cur,e,hb,hrow,hc,_⟩⟩:=id ho
 ·have:acc = []:=List.length_eq_zero_iff.1 h0
  subst this;exact⟨Nat.zero_le _,Or.inl rfl⟩
 ·injection e with e1 e2 e3
  subst e1 e3;refine⟨hc,Or.inr ⟨b,xs,rfl,⟨hb,(Array.getElem?_eq_some_iff.1 hrow).1⟩,RowSc.to (fun x hx=>⟨⟨hx.1,hx.2.1⟩,rfl⟩) hr,fun j u hu => ?_⟩⟩;have:=cells_own ho j u hu;rw[Nat.zero_add] at this;exact this
theorem QI.snoc {w wr w2 wa w6:World} {fv:Value} {fs:List PFn} {d:DK} {acc:List PSc} {ao:Option Addr} {cap g:Nat} {sa ca ea:Option Addr} {ns sc nc cc ne ec g' cap':Nat} {xs:List Value} (h:QI w wr acc ao cap) (hg:wr.heap.size≤g) (k:Ext wr w2) (hC:CS g w2 fv fs d sa ns sc ca nc cc ea ne ec) (ka:Ext w2 wa)
  (hx:wa.ownsRow w.heap.size 79 3 (.slice ao acc.length cap) acc.length xs∧RowSc wa (fun b=>w.heap.size≤b∧b < wa.heap.size∧some b≠(Value.slice ao acc.length cap).ownBlock) acc xs)
  (ho:w6.ownsRow w.heap.size 79 3 (.slice (some ⟨g',0,none⟩) (acc.length+1) cap') (acc.length+1) (xs++[.int .i64 d.lc,.slice sa ns sc,.slice ca nc cc]))
  (hgw:wa.grownBy w6 (Value.slice ao acc.length cap).ownBlock) (hw:(Value.slice ao acc.length cap).ownBlock=some g'∨wa.heap.size≤g') :
  QI w w6 (acc++[⟨d.lc,d.sl,d.cl⟩]) (some ⟨g',0,none⟩) cap':=by
 have hz1:=k.size;have hz2:=ka.size;have hz3:=h.ext.size;have hgs:=hgw.size;have hln:(acc++[(⟨d.lc,d.sl,d.cl⟩:PSc)]).length=acc.length+1:=by simp
 have hne:∀ k,k < w.heap.size→some k≠(Value.slice ao acc.length cap).ownBlock:=fun k hk e=>by have:=(hx.1.lt k e.symm).1;omega
 have hE:Ext w w6:=by
  have h9:=(h.ext.trans k).trans ka;exact⟨hgw.os.trans h9.os,hgw.tape.trans h9.tape,hgw.output.trans h9.output,by omega,fun b hb=>(hgw.block b (by omega) (hne b hb)).trans (h9.block b hb)⟩
 have hF:∀ b,(w.heap.size≤b∧b < wa.heap.size∧some b≠(Value.slice ao acc.length cap).ownBlock) →
   (w.heap.size≤b∧b < w6.heap.size∧some b≠(Value.slice (some ⟨g',0,none⟩) (acc++[(⟨d.lc,d.sl,d.cl⟩:PSc)]).length cap').ownBlock)∧w6.heap[b]? = wa.heap[b]?:=by
  intro b hb;refine⟨⟨hb.1,by have:=hb.2.1;omega,?_⟩,hgw.block b hb.2.1 hb.2.2⟩;intro e;simp only[Value.ownBlock,Option.some.injEq] at e;rcases hw with e2 | e2
  ·exact hb.2.2 (by rw[e2,e])
  ·have:=hb.2.1;omega
 have hI:∀ b,(g+1≤b∧b < w2.heap.size)→(w.heap.size≤b∧b < wa.heap.size∧some b≠(Value.slice ao acc.length cap).ownBlock)∧wa.heap[b]? = w2.heap[b]?:=by
  intro b hb;obtain⟨ys,hy,_⟩:=h.own;exact⟨⟨by omega,by omega,fun e=>by have:=(hy.lt b e.symm).2;omega⟩,ka.block b hb.2⟩
 obtain⟨l1,i1⟩:=rowI hC.osl hC.hns;obtain⟨l2,i2⟩:=rowI hC.ocl hC.hnc;have e1:=hC.hns;have e2:=hC.hnc;subst e1 e2;exact⟨hE,_,by rw[hln];exact ho,RowSc.snoc (p:=⟨d.lc,d.sl,d.cl⟩) l1 ((i1.to hI).to hF) l2 ((i2.to hI).to hF) (RowSc.to hF hx.2)⟩
theorem CF.ext {g:Nat} {w w':World} (h:CF g w w') (wr:World) (hg:wr.heap.size≤g) (k:Ext wr w):Ext wr w':=⟨h.os.trans k.os,h.tape.trans k.tape,h.output.trans k.output,Nat.le_trans k.size h.size,fun b hb=>(h.low b (by omega)).trans (k.block b hb)⟩
theorem CS.new {w:World} {fs:List PFn} {fa:Option Addr} {fcap:Nat} (hr:RepFL w (fun b=>b < w.heap.size) fs fa) (hcap:fs.length≤fcap) :
  CS w.heap.size (w.alloc (ckO (.slice fa fs.length fcap) 0 (.slice none 0 0) (.slice none 0 0) (.slice none 0 0) 0 0)) (.slice fa fs.length fcap) fs ⟨[],0,0,[],[],0⟩ none 0 0 none 0 0 none 0 0 :=
 ⟨Go.heap_alloc_new w _,World.ownsRow_nil _ _ _ _,World.ownsRow_nil _ _ _ _,World.ownsRow_nil _ _ _ _,(fun b h=>by cases h),(fun p h=>by cases h),rfl,rfl,rfl,fa,fcap,rfl,hcap,hr.to (fun b hb=>⟨hb,(Ext.alloc w _).block b hb⟩)⟩
theorem infoSo:(Tryz.prog.info? 79).map (fun i=>(i.zero,i.size,i.bytes))=some (some (scV 0 none 0 0 none 0 0),3,56):=by kernel_rfl
theorem mainD_none {fs:List PFn} (h:∀ p ∈ fs,(p.nm.data.toList == [109,97,105,110])=false):mainD fs=11:=by
 unfold mainD;rw[idxF_none fs _ 0 h]
theorem mainD_some {fs:List PFn} {i:Nat} {p:PFn} (hp:fs[i]? = some p) (h:(p.nm.data.toList == [109,97,105,110])=true) (hn:(fs.take i).any (sameN p.nm)=false):mainD fs=if 0 < p.ps.length then 12 else 0:=by
 have e:p.nm.data.toList = [109,97,105,110]:=by simpa using h
 unfold mainD;rw[idxF_some fs ⟨#[109,97,105,110]⟩ 0 i p hp h (fun q hq=>by
  have:=List.any_eq_false.1 hn q hq;unfold sameN at this;rw[e] at this
  simpa using this),Nat.zero_add]
 simp only[hp,Option.map_some,Option.getD_some]
abbrev docE (fs:List PFn):List PSc × Int:=if (dChk fs fs []).2≠0 then ([],(dChk fs fs []).2) else if mainD fs≠0 then ([],mainD fs) else ((dChk fs fs []).1,0)
theorem docE_bad {fs:List PFn} {i:Nat} {p:PFn} {acc:List PSc} {c:Int} (hd:dChk fs fs []=dChk fs (fs.drop i) acc) (hp:fs[i]? = some p) (hc:(dFn fs p).2=c) (h:c≠0):docE fs=([],c):=by
 have e:=hd.trans (dChk_bad (acc:=acc) hp (by rw[hc];exact h));show (if (dChk fs fs []).2≠0 then ([],(dChk fs fs []).2) else _)=_
 rw[e,if_pos (by show (dFn fs p).2≠0;rw[hc];exact h)];show (([]:List PSc),(dFn fs p).2)=_;rw[hc]
theorem docE_end {fs:List PFn} {acc:List PSc} (hd:dChk fs fs []=(acc,0)):docE fs=if mainD fs≠0 then ([],mainD fs) else (acc,0):=by
 show (if (dChk fs fs []).2≠0 then ([],(dChk fs fs []).2) else if mainD fs≠0 then ([],mainD fs) else ((dChk fs fs []).1,0))=_
 rw[hd];exact if_neg (fun h=>h rfl)
def MainI (fs:List PFn) (i:Nat) (mn:Int):Prop:=(mn = -1∧∀ q ∈ fs.take i,(q.nm.data.toList == [109,97,105,110])=false)∨∃ (m:Nat) (p:PFn),mn=(m:Int)∧fs[m]? = some p∧(p.nm.data.toList == [109,97,105,110])=true
theorem MainI.yes {fs:List PFn} {i:Nat} {p:PFn} (hp:fs[i]? = some p) (h:(p.nm.toList == [109,97,105,110])=true) (j:Nat):MainI fs j (i:Int):=Or.inr ⟨i,p,rfl,hp,by rw[ByteArray.toList_eq] at h;exact h⟩
theorem MainI.no {fs:List PFn} {i:Nat} {mn:Int} {p:PFn} (hm:MainI fs i mn) (hp:fs[i]? = some p) (h:(p.nm.toList == [109,97,105,110])=false):MainI fs (i+1) mn:=by
 rcases hm with⟨rfl,hq⟩ | hq
 ·refine Or.inl ⟨rfl,fun q hq2 => ?_⟩
  have hlt:=(List.getElem?_eq_some_iff.1 hp).1;rw[List.take_succ_eq_append_getElem hlt,(List.getElem?_eq_some_iff.1 hp).2] at hq2;rcases List.mem_append.1 hq2 with hq2 | hq2
  ·exact hq q hq2
  ·simp at hq2;subst hq2;rw[ByteArray.toList_eq] at h;exact h
 ·exact Or.inr hq
end
end Go.Proofs.YtjnpehohialmbaaGreat
