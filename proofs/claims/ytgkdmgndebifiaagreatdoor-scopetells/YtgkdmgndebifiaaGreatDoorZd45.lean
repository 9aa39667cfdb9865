/- The document's way through a tree: a let. -/
import Derived.Test.YtgkdmgndebifiaaGreatDoorZd43
set_option linter.unusedSimpArgs false
set_option linter.unusedVariables false
set_option maxRecDepth 10000
namespace Go.Proofs.YtgkdmgndebifiaaGreatDoor
open Go.RowKit Go.Maps
variable {g:Nat} {w w' w2:World} {fv:Value} {fs:List PFn} {d:DK}
set_option maxHeartbeats 4000000 in
theorem walk_let {F:Nat} {o n:Int} {s:ByteArray} {l:List PN} {v:Value} (hfl:fs.length ≤ 100000) (hps:∀ p ∈ fs,p.ps.length ≤ 100000) (hw:∀ x ∈ l,WkOf g fv fs F x) (h:CK g w fv fs d) (hr:RepN w (fun b => b < g) ⟨1,o,s,n,l⟩ v) (he:d.e = 0) (hb1:d.see.length + nszL l < 100000) (hb2:d.sl.length + nszL l < 100000) (hb3:d.cl.length + nszL l < 100000) (hb4:0 ≤ d.lp) (hb5:d.lp + nszL l < 100000) (hb6:0 ≤ d.lc) (hb7:d.lc + nszL l < 100000) (hll:l.length ≤ 100000) :
  Calls Tryz.prog 17 #[.pointer (some ⟨g,0,none⟩),v] w (CAns g w fv fs (dEnd fs 1 s l.length d.see.length (l.foldl (fun d x => dW fs F x d) (dBeg 1 s d)))):=by
 have hg:=h.lt
 rw [RepN] at hr
 obtain ⟨a,cap,rfl,hcap,hl⟩:=hr
 have hlenz:∀ j,nszL (l.take j) ≤ nszL l:=fun j => by
  have h9:=nszL_append (l.take j) (l.drop j)
  rw [List.take_append_drop] at h9
  omega
 have hatz:∀ (j:Nat) (x:PN),l[j]? = some x → nszL (l.take j) + nsz x ≤ nszL l:=fun j x hx => by
  have hlt:=(List.getElem?_eq_some_iff.1 hx).1
  have h9:=nszL_append (l.take j) (l.drop j)
  rw [List.take_append_drop,List.drop_eq_getElem_cons hlt,(List.getElem?_eq_some_iff.1 hx).2,nszL] at h9
  omega
 have hbg:dBeg 1 s d = d:=by unfold dBeg;rw [if_neg (by decide)]
 rw [hbg]
 obtain ⟨mk,hmk⟩:∃ mk,mk = d.see.length:=⟨_,rfl⟩
 rw [← hmk]
 have X0:Ext w (w.alloc (nodO 1 o s n (.slice a l.length cap))):=Ext.alloc _ _
 have HB:=hide (Go.heap_alloc_new w (nodO 1 o s n (.slice a l.length cap)))
 have HL0:=hide ((CF.of hg X0).repL hl)
 have HK0:=hide (h.ext X0)
 have HX0:=hide (CF.of hg X0)
 obtain ⟨d0,hd0⟩:∃ d0,d0 = d:=⟨_,rfl⟩
 rw [← hd0]
 have hs0:d0.see = d.see:=by rw [hd0]
 have hs1:d0.sl.length ≤ d.sl.length + 1:=by rw [hd0];omega
 have hs2:d0.cl = d.cl:=by rw [hd0]
 have hs3:d0.lc = d.lc:=by rw [hd0]
 have hs4:d0.lp = d.lp:=by rw [hd0]
 have HFO:=hide (fun (j:Nat) => fold_le fs F (fun q e => dW_le fs F q e) (l.take j) d0)
 have HPRE:=hide (fold_pre fs F (fun q e => dW_pre fs F q e) l d0)
 have hwk:∀ (wr:World) (j:Nat) (x:PN) (u:Value),l[j]? = some x → CK g wr fv fs ((l.take j).foldl (fun d x => dW fs F x d) d0) → RepN wr (fun b => b < g) x u → Calls Tryz.prog 17 #[.pointer (some ⟨g,0,none⟩),u] wr (CAns g wr fv fs ((l.take (j + 1)).foldl (fun d x => dW fs F x d) d0)):=fun wr j x u hx k r => by
  have hlt:=(List.getElem?_eq_some_iff.1 hx).1
  have e9:l.take (j + 1) = l.take j ++ [x]:=by rw [List.take_succ_eq_append_getElem hlt,(List.getElem?_eq_some_iff.1 hx).2]
  rw [e9,List.foldl_append,List.foldl_cons,List.foldl_nil]
  have f9:=unhide HFO j
  have z9:=hatz j x hx
  have f1:=f9.see
  have f2:=f9.sl
  have f3:=f9.cl
  have f4:=f9.lc
  have f5:=f9.lc0
  have f6:=f9.lp
  rw [hs0] at f1
  rw [hs2] at f3
  rw [hs3] at f4 f5
  rw [hs4] at f6
  exact hw x (List.mem_of_getElem? hx) wr _ u k r (by omega) (by omega) (by omega) (by omega) (by omega) (by omega) (by omega)
 have HWK:=hide hwk
 obtain ⟨sa,ns,sc,ca,nc,cc,ea,ne,ec,h⟩:=h
 have hne:=h.hne
 have hrow:=h.row
 rw [he] at hrow
 obtain ⟨c0,c1,c2,c3,c4,c5,c6,zf⟩:=ck_c hrow
 obtain ⟨d2,hd2⟩:∃ d2,d2 = l.foldl (fun d x => dW fs F x d) d0:=⟨_,rfl⟩
 rw [← hd2]
 have HD2:Hd (∀ j,j = l.length → (l.take j).foldl (fun d x => dW fs F x d) d0 = d2):=fun j hj => by rw [hj,List.take_length,hd2]
 have hpre:d.see.length ≤ d2.see.length:=by
  have h9:=(unhide HPRE).length_le
  rw [← hd2,hs0] at h9
  exact h9
 have hall:=unhide HFO l.length
 rw [List.take_length,← hd2] at hall
 have A1:=hall.see
 have A2:=hall.sl
 have A3:=hall.cl
 have A4:=hall.lc
 have A5:=hall.lc0
 rw [hs0] at A1
 rw [hs2] at A3
 rw [hs3] at A4 A5
 rw [hne] at hpre A1 hmk
 have hmk2:=hmk.symm
 clear hmk
 subst hmk2
 obtain ⟨II0,hi,hz0,hz1,hz2⟩:=info_parts infoI
 have HII:=hide hi
 have ZII0:=hide hz0
 have ZII1:=hide hz1
 have ZII2:=hide hz2
 clear hi hz0 hz1 hz2
 obtain ⟨SS0,hi,hz0,hz1,hz2⟩:=info_parts infoSe
 have HSS:=hide hi
 have ZSS0:=hide hz0
 have ZSS1:=hide hz1
 have ZSS2:=hide hz2
 clear hi hz0 hz1 hz2
 clear h hrow hl X0 hd2 hwk hw hlenz hatz hbg HFO HPRE hall he
 generalize hM:l.length = m at *
 have hwg:(w.heap.size == g) = false:=by simp;omega
 go_enter Tryz.func17,Tryz.ntmps17
 go_wp2_with fail
 obtain ⟨W1,hW1⟩:∃ W1,W1 = w.alloc (nodO 1 o s n (.slice a m cap)):=⟨_,rfl⟩
 have K1:Hd (CK g W1 fv fs d0):=by rw [Hd,hW1,hd0];exact unhide HK0
 have F1:Hd (CF g w W1):=by rw [Hd,hW1];exact unhide HX0
 have RB:Hd (W1.heap[w.heap.size]? = some (nodO 1 o s n (.slice a m cap))):=by rw [Hd,hW1];exact unhide HB
 have LR:Hd (RepNL W1 (fun b => b < g) l a):=by rw [Hd,hW1];exact unhide HL0
 rw [← hW1]
 clear hW1
 clear HK0 HX0 HB HL0 hd0 c0 c1 c2 c3 c4 c5 c6 zf
 go_loopw [5] (fun t wr => ∃ (j:Nat),t = .int .i64 j ∧ j ≤ m ∧ Hd (CF g W1 wr) ∧ Hd (CK g wr fv fs ((l.take j).foldl (fun d x => dW fs F x d) d0))) (fun t _ => m - (intOf t).toNat)
 case atStart => exact ⟨0,rfl,Nat.zero_le _,CF.refl _ _,by rw [Hd,List.take_zero];exact unhide K1⟩
 case round =>
  obtain ⟨j,rfl,hj,hF,hK⟩:=hrel
  have hRB:=(unhide hF).rowN (by show w.heap.size ≠ g;omega) (unhide RB)
  have b0:=rowC hRB 0 rfl
  have b1:=rowC hRB 1 rfl
  have b2:=rowC hRB 2 rfl
  have b3:=rowC hRB 3 rfl
  have b4:=rowC hRB 4 rfl
  clear hRB
  by_cases hlt:j < m
  ·obtain ⟨x,hx⟩:∃ x,l[j]? = some x:=⟨_,List.getElem?_eq_getElem (by omega)⟩
   obtain ⟨b,off,x0,x1,x2,x3,x4,rfl,hbl,r,e0,e1,e2,e3,e4⟩:=repNL_at ((unhide hF).repL (unhide LR)) j x hx
   have HX:=hide (unhide HWK wr j x _ hx (unhide hK) r)
   clear r hx hbl
   go_wp2_with (go_at_call 17;refine Calls.mono (unhide HX) ?_;rintro e w2 ⟨rfl,hk,hcf⟩;have K2:=hide hk;have F2:=hide ((unhide hF).trans hcf);clear hk hcf)
   go_roundw
   case rel => exact ⟨j + 1,by go_num,by omega,F2,K2⟩
   case measure => simp [intOf];omega
  ·have hK2:=unhide hK
   rw [unhide HD2 j (by omega)] at hK2
   have HK2:=hide hK2
   have HF2:=hide ((unhide F1).trans (unhide hF))
   have hlp:j = m:=by omega
   clear hK hF K1 F1 LR RB HWK hK2
   have hE:dEnd fs 1 s m ne d2 = d2.letD s:=by unfold dEnd;rw [if_pos rfl]
   have HE0:=hide hE
   clear hE
   by_cases he2:d2.e = 0
   case neg =>
    have hL:d2.letD s = d2:=by unfold DK.letD;rw [if_pos he2]
    have HEQ:=hide ((unhide HE0).trans hL)
    have hea:(d2.e == 0) = false:=by simpa using he2
    obtain ⟨sa2,ns2,sc2,ca2,nc2,cc2,ea2,ne2,ec2,hS⟩:=unhide HK2
    obtain ⟨c0,c1,c2,c3,c4,c5,c6,zf⟩:=ck_c hS.row
    clear hS hL he2
    go_wp2_with fail
    go_end0
    exact ⟨rfl,by rw [unhide HEQ];exact unhide HK2,unhide HF2⟩
   have HFI:=hide (find_c (unhide HK2) (by omega) s)
   obtain ⟨sa2,ns2,sc2,ca2,nc2,cc2,ea2,ne2,ec2,hS⟩:=unhide HK2
   have hrow:=hS.row
   rw [he2] at hrow
   have HRW:=hide hrow
   have HS:=hide hS
   obtain ⟨c0,c1,c2,c3,c4,c5,c6,zf⟩:=ck_c hrow
   have hge:=hS.lt
   have hns2:=hS.hns
   have hne2:=hS.hne
   have hg2:g < wr.heap.size:=hge
   cases hf:fnd d2.see s with
   | some v =>
    have hL:d2.letD s = { d2 with e:=11 }:=by unfold DK.letD;rw [if_neg (by simp [he2]),hf];rfl
    have hv:fndV d2.see s = v:=by unfold fndV;rw [hf]
    have hpos:=fnd_pos hS.pos hf
    have HEQ:=hide ((unhide HE0).trans hL)
    rw [hv] at HFI
    have hd0:decide (0 ≤ v) = true:=by simp;omega
    clear hL hv hf hS hrow he2
    go_wp2_with (go_at_call 16;refine Calls.mono (unhide HFI) ?_;rintro e w3 ⟨rfl,hw3⟩;have X3:=hide hw3;obtain ⟨c0,c1,c2,c3,c4,c5,c6,zf⟩:=ck_c (hw3.row (unhide HRW));clear hw3)
    go_end0
    exact ⟨rfl,by rw [unhide HEQ];exact ⟨_,_,_,_,_,_,_,_,_,((unhide HS).ext (unhide X3)).setE 11⟩,((unhide HF2).trans (CF.of hg2 (unhide X3))).set 6 _⟩
   | none =>
    have hL:d2.letD s = { d2 with see:=d2.see ++ [(s,d2.lc)],sl:=d2.sl ++ [d2.lc],lc:=d2.lc + 1 }:=by unfold DK.letD;rw [if_neg (by simp [he2]),hf];rfl
    have hv:fndV d2.see s = -1:=by unfold fndV;rw [hf]
    have HEQ:=hide ((unhide HE0).trans hL)
    rw [hv] at HFI
    have hlc0:0 ≤ d2.lc:=by omega
    have hlc1:d2.lc ≤ 100000:=by omega
    clear hL hv hf hS hrow he2
    go_wp2_with (go_at_call 16;refine Calls.mono (unhide HFI) ?_;rintro e w3 ⟨rfl,hw3⟩;have X3:=hide hw3;have HRW3:=hide (hw3.row (unhide HRW));obtain ⟨c0,c1,c2,c3,c4,c5,c6,zf⟩:=ck_c (unhide HRW3);have b0:=hw3.cell b0;have b1:=hw3.cell b1;have b2:=hw3.cell b2;have b3:=hw3.cell b3;have b4:=hw3.cell b4;have S3:=hide ((unhide HS).ext hw3);clear hw3)
    have S4:Hd (∀ ob,CS g (w3.drew.alloc ob) fv fs d2 sa2 ns2 sc2 ca2 nc2 cc2 ea2 ne2 ec2):=fun ob => ((unhide S3).ext (Ext.drew (Ext.refl _))).ext (Ext.alloc _ ob)
    have hg3:g < w3.heap.size:=(unhide S3).lt
    refine wp_nrm ?_
    first | skip;go_region_law (first
     | (refine step_append_where rfl (.tmp 106) (.tmp 115) 62 rfl (g + 1) 67 SS0 (.agg #[.string emptyB,.int .i64 0]) 2 24 Tryz.underlying62 (unhide HSS) (unhide ZSS0) (unhide ZSS1) (unhide ZSS2) rfl (by decide) ea2 ne2 ec2 (d2.see.flatMap seC) (by simp [Act.eval,Act.put]) (unhide S4 _).ose ⟨w3.heap.size,0,none⟩ 1 1 [.string s,.int .i64 d2.lc] (by simp [Act.eval,Act.put]) (by decide) rfl (cells_new w3.drew _ _) (one_see _ _) (by unfold maxLen;omega) (by omega) (by simp;omega) ?_;intro g2 cap6 w6 ho6 hg6 hw6;have hrow6:=row_grow (unhide S4 _).ose hg6 (unhide S4 _).row;obtain ⟨z0,z1,z2,z3,z4,z5,z6,zzf⟩:=ck_c hrow6;have HP:=hide (CS.pushSee (unhide S4 _) hlc0 ho6 hg6);clear ho6 hg6 hw6 hrow6)) | fail
    all_goals
     refine nrm_inC ?_
     go_wp2_with fail
     refine gen_world (F:=fun W => Code.wp _ _ _ _ W) ?_
     intro W5 hW5
     have S5:Hd (CS g W5 fv fs { d2 with see:=d2.see ++ [(s,d2.lc)] } sa2 ns2 sc2 ca2 nc2 cc2 (some ⟨g2,0,none⟩) (ne2 + 1) cap6):=by rw [Hd,hW5];exact (unhide HP).1
     have F5:Hd (CF g w W5):=by rw [Hd,hW5];exact (((unhide HF2).trans (CF.of hg2 ((unhide X3).trans ((Ext.drew (Ext.refl _)).trans (Ext.alloc _ _))))).trans (unhide HP).2)
     clear hW5 HP z0 z1 z2 z3 z4 z5 z6 zzf c0 c1 c2 c3 c4 c5 c6 zf
     have hrow5:=(unhide S5).row
     obtain ⟨c0,c1,c2,c3,c4,c5,c6,zf⟩:=ck_c hrow5
     have hg5:g < W5.heap.size:=(unhide S5).lt
     clear hrow5
     have S6:Hd (∀ ob,CS g (W5.drew.alloc ob) fv fs { d2 with see:=d2.see ++ [(s,d2.lc)] } sa2 ns2 sc2 ca2 nc2 cc2 (some ⟨g2,0,none⟩) (ne2 + 1) cap6):=fun ob => ((unhide S5).ext (Ext.drew (Ext.refl _))).ext (Ext.alloc _ ob)
     refine wp_nrm ?_
     first | skip;go_region_law (first
      | (refine step_append_where rfl (.tmp 124) (.tmp 130) 40 rfl (g + 1) 3 II0 (.int .i64 0) 1 8 Tryz.underlying40 (unhide HII) (unhide ZII0) (unhide ZII1) (unhide ZII2) rfl (by decide) sa2 ns2 sc2 (inV d2.sl) (by simp [Act.eval,Act.put]) (unhide S6 _).osl ⟨W5.heap.size,0,none⟩ 1 1 [.int .i64 d2.lc] (by simp [Act.eval,Act.put]) (by decide) rfl (cells_new W5.drew _ _) (one_int _) (by unfold maxLen;omega) (by omega) (by simp;omega) ?_;intro g7 cap7 w7 ho7 hg7 hw7;have hrow7:=row_grow (unhide S6 _).osl hg7 (unhide S6 _).row;obtain ⟨y0,y1,y2,y3,y4,y5,y6,yzf⟩:=ck_c hrow7;have HP7:=hide (CS.pushSl (unhide S6 _) ho7 hg7 hw7);clear ho7 hg7 hw7 hrow7)) | fail
     all_goals
      refine nrm_inC ?_
      have hS8:=(unhide HP7).1
      obtain ⟨v0,v1,v2,v3,v4,v5,v6,vz⟩:=ck_c hS8.row
      have HS8:=hide (hS8.setLc (d2.lc + 1))
      have F8:=hide (((unhide F5).trans (CF.of hg5 ((Ext.drew (Ext.refl _)).trans (Ext.alloc _ _)))).trans (unhide HP7).2)
      clear hS8 y0 y1 y2 y3 y4 y5 y6 yzf
      go_wp2_with fail
      go_end0
      exact ⟨rfl,by rw [unhide HEQ];exact ⟨_,_,_,_,_,_,_,_,_,unhide HS8⟩,(unhide F8).set 1 _⟩
end Go.Proofs.YtgkdmgndebifiaaGreatDoor
