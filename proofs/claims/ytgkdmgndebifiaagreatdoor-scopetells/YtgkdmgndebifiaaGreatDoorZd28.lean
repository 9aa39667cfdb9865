/- A function with parameters,in the document's own reader. -/
import Derived.Test.YtgkdmgndebifiaaGreatDoorZd26
set_option linter.unusedSimpArgs false
set_option linter.unusedVariables false
set_option maxRecDepth 10000
namespace Go.Proofs.YtgkdmgndebifiaaGreatDoor
open Go.RowKit
variable {w w':World} {g len:Nat} {T:List Tk} {wd:Int} {st:PS}
def PQ (len:Nat) (F:List ByteArray × PS) (stc:PS) (acc:List ByteArray) (j:Nat):Prop :=
 (stc.e = 0 ∧ F = parLoop len j (acc ++ [(stc.name len).1]) (stc.name len).2 ∧ (stc.name len).2.ts.length < j ∧ acc.length + stc.ts.length ≤ 100000) ∨ (stc.e ≠ 0 ∧ Kp stc F.2)
set_option maxHeartbeats 8000000 in
theorem function_some (bl:Rdr) (f:Nat) (hgb:GoodR bl) (hf:st.ts.length < f) (hf2:f ≤ 90000) (hbl:RBlk g len T wd bl (funB len f st).2) (hS:((funA len st).2.sign len ⟨#[40]⟩).isS ⟨#[41]⟩ = false) (h:Rp w g len T wd st) :
  Calls Tryz.prog 13 #[.pointer (some ⟨g,0,none⟩)] w (RFun w g len T wd (funP len bl f st)):=by
 have hg:=h.lt
 have n1:=(pword_kp h.nv len ⟨#[102,110]⟩).nv h.nv
 have n2:=(name_kp n1 len).nv n1
 have n3:=(psign_kp n2 len ⟨#[40]⟩).nv n2
 have HFn:=hide (fun (W:World) (x:Rp W g len T wd st) => want_w x ⟨#[102,110]⟩ (by decide +kernel))
 have HNm:Hd (∀ W,Rp W g len T wd (st.word len ⟨#[102,110]⟩) → Calls Tryz.prog 32 #[.pointer (some ⟨g,0,none⟩)] W (RAns W g len T wd (.string (funA len st).1) (funA len st).2)):=fun W x => name_r x
 have HOp:=hide (fun (W:World) (x:Rp W g len T wd (funA len st).2) => want_s x ⟨#[40]⟩ (by decide +kernel))
 have H:=hide h
 have HBl:=hide hbl
 unfold RBlk at HBl
 have HTk:=hide (fun (W:World) (x:Rp W g len T wd ((funA len st).2.sign len ⟨#[40]⟩)) => takeS_no x ⟨#[41]⟩ (by decide +kernel) hS)
 have q1:=word_le st len ⟨#[102,110]⟩
 have q2:(funA len st).2.ts.length ≤ (st.word len ⟨#[102,110]⟩).ts.length:=name_le _ _
 have q3:=psign_le (funA len st).2 len ⟨#[40]⟩
 obtain ⟨F,hF⟩:∃ F,F = parLoop len f [(((funA len st).2.sign len ⟨#[40]⟩).name len).1] (((funA len st).2.sign len ⟨#[40]⟩).name len).2:=⟨_,rfl⟩
 have n3':Nv ((funA len st).2.sign len ⟨#[40]⟩):=n3
 have KF:Kp ((funA len st).2.sign len ⟨#[40]⟩) F.2:=by rw [hF];exact (name_kp n3' len).trans (parLoop_kp len f _ _ ((name_kp n3' len).nv n3'))
 have nF:=KF.nv n3'
 have eB:funB len f st = (F.1,F.2.sign len ⟨#[41]⟩):=by unfold funB parP;rw [hS,hF];rfl
 have HCl:=hide (fun (W:World) (x:Rp W g len T wd F.2) => want_s x ⟨#[41]⟩ (by decide +kernel))
 have KS:=psign_kp nF len ⟨#[41]⟩
 have KB:=hgb (F.2.sign len ⟨#[41]⟩) (KS.nv nF)
 obtain ⟨RS,hRS⟩:∃ RS,RS = funP len bl f st:=⟨_,rfl⟩
 rw [← hRS]
 have hRS2:RS = (⟨(funA len st).1,F.1,(bl (F.2.sign len ⟨#[41]⟩)).1⟩,(bl (F.2.sign len ⟨#[41]⟩)).2):=by rw [hRS,funP,eB]
 rw [eB] at HBl
 simp only at HBl
 have HE:Hd (RS.2.e = 0 → F.2.e = 0):=fun e => by rw [hRS2] at e;exact (KS.ok (KB.ok e).1).1
 have MQ:Hd (PQ len F ((funA len st).2.sign len ⟨#[40]⟩) [] f):=by
  by_cases h9:((funA len st).2.sign len ⟨#[40]⟩).e = 0
  ·have q4:=name_le ((funA len st).2.sign len ⟨#[40]⟩) len
   exact Or.inl ⟨h9,hF,by omega,by simp;omega⟩
  ·exact Or.inr ⟨h9,KF⟩
 generalize hqb:bl (F.2.sign len ⟨#[41]⟩) = bq at *
 have HRS1:Hd (RS.1 = ⟨(funA len st).1,F.1,bq.1⟩):=by rw [Hd,hRS2]
 have hRS3:bq.2 = RS.2:=by rw [hRS2]
 clear h hbl hgb n1 n2 n3 n3' hRS hRS2 eB hS KB KS KF nF hF hqb q1 q2 q3
 obtain ⟨bq1,bq2⟩:=bq
 simp only at hRS3 HRS1
 subst hRS3
 generalize (funA len st).2.sign len ⟨#[40]⟩ = u3 at *
 generalize funA len st = qa at *
 obtain ⟨fnm,u2⟩:=qa
 simp only at *
 obtain ⟨i0,hi,hz0,hz1,hz2⟩:=info_parts infoS
 have HI:=hide hi
 have Z0:=hide hz0
 have Z1:=hide hz1
 have Z2:=hide hz2
 clear hi hz0 hz1 hz2
 have hwg:(w.heap.size == g) = false:=by simp;omega
 go_enter Tryz.func13,Tryz.ntmps13
 go_wp2_with (first
  | (have T9:=unhide H;go_at_call 31;refine Calls.mono (unhide HFn _ (T9.ext (Ext.alloc _ _))) ?_;rintro e w1 ⟨rfl,hs,hw⟩;have S1:=hide hs;have G1:=hide ((Gr.of (Ext.alloc w _)).trans hw);have R1:=hide (hw.row (Go.heap_alloc_new w _) (by omega));clear hw hs T9 H)
  | (have T9:=unhide S1;go_at_call 32;refine Calls.mono (unhide HNm _ T9) ?_;rintro e w2 ⟨rfl,hs,hw⟩;have N2:=hide (FS.start hg (hw.row (unhide R1) (by omega)) ((unhide G1).trans hw) hs fnm);clear hw hs T9 S1 R1 G1)
  | (have T9:=unhide N2;go_at_call 31;refine Calls.mono (unhide HOp _ T9.rs) ?_;rintro e w3 ⟨rfl,hs,hw⟩;have N3:=hide (T9.go hs hw);clear hw hs T9 N2)
  | (have T9:=unhide N3;go_at_call 33;refine Calls.mono (unhide HTk _ T9.rs) ?_;rintro e w4 ⟨rfl,hs,hw⟩;have N4:=hide (T9.go hs hw);clear hw hs T9 N3))
 go_loopw [] (fun wr => ∃ (acc:List ByteArray) (nq:Nat) (ao:Option Addr) (cap:Nat) (stc:PS) (j:Nat),Hd (FS g len T wd w wr w2.heap.size stc fnm acc nq ao cap) ∧ Hd (PQ len F stc acc j)) (fun wr => rleft g T.length wr)
 case atStart => exact ⟨[],0,none,0,u3,f,N4,MQ⟩
 case round =>
  clear MQ N4
  obtain ⟨acc,nq,ao,cap,stc,j,hM,hQ⟩:=hrel
  have hnvc:=(unhide hM).rs.nv
  have hBB:=(unhide hM).hB
  have hne1:(w2.heap.size == g) = false:=by simp;omega
  have hne2:(w.heap.size == w2.heap.size) = false:=by simp;omega
  obtain ⟨V,i,pl,dp,hrow,-⟩:=(unhide hM).rs.ex
  rcases unhide hQ with ⟨hec,hEq,hfu,hbd⟩ | ⟨hec,hkp⟩
  ·rw [hec] at hrow
   obtain ⟨c0,c1,c2,c3,c4,c5,c6,zf⟩:=rp_c hrow
   obtain ⟨j,rfl⟩:∃ i,j = i + 1:=⟨j - 1,by omega⟩
   have HN2:=hide (fun (W:World) (x:Rp W g len T wd stc) => name_r x)
   have hm0:=rleft_eq (unhide hM).rs
   rw [if_pos hec] at hm0
   have hnl:=name_le stc len
   have hnn:=(name_kp hnvc len).nv hnvc
   generalize hqn:stc.name len = qn at *
   obtain ⟨nm1,st4⟩:=qn
   simp only at *
   cases hc:st4.isS ⟨#[44]⟩
   ·have hF2:F = (acc ++ [nm1],st4):=by rw [hEq,parLoop,hc];rfl
    have HTc:=hide (fun (W:World) (x:Rp W g len T wd st4) => takeS_no x ⟨#[44]⟩ (by decide +kernel) hc)
    subst hF2
    simp only at HCl HRS1 HE
    clear hEq hfu hQ hqn hnn hrow hm0 hc
    have d1:wr.cell? ⟨w2.heap.size,1,none⟩ = some (.slice ao nq cap):=rowC (unhide hM).r3 1 rfl
    have dz:=rowF (unhide hM).r3
    have hltw:=(unhide hM).lt
    have hn9:=(unhide hM).hn
    go_wp2_with fail
    have D0:Hd (Gr g wr wr.drew):=(Gr.refl _ _).drew
    have D1:Hd (Rp wr.drew g len T wd stc):=(unhide hM).rs.ext (Ext.drew (Ext.refl _))
    have HN3:=hide (unhide HN2 _ (unhide D1))
    refine wp_nrm ?_
    first | skip;go_region_law (first
     | (refine step_call_one rfl 32 (.tmp 21) 52 rfl _ (by simp [Act.eval,Act.put]) (enterRNm _ _) (Calls.mono (unhide HN3) ?_);rintro e w5 ⟨rfl,hs,hw⟩;have X5:=hide ((unhide D0).trans hw);have RG:=hide ((unhide X5).row (unhide hM).r3 (by omega));have d0:=rowC (unhide RG) 0 rfl;have d1:=rowC (unhide RG) 1 rfl;have d2:=rowC (unhide RG) 2 rfl;have d3:=rowC (unhide RG) 3 rfl;have d4:=rowC (unhide RG) 4 rfl;have d5:=rowC (unhide RG) 5 rfl;have d6:=rowC (unhide RG) 6 rfl;have dz:=rowF (unhide RG);have S5:=hide hs;have hb5:w2.heap.size < w5.heap.size:=(Array.getElem?_eq_some_iff.1 (unhide RG)).1;clear hw hs;refine ⟨_,rfl,?_⟩)
     | (refine step_append_where rfl (.tmp 20) (.tmp 23) 55 rfl (w.heap.size + 1) 9 i0 (.string emptyB) 1 16 Tryz.underlying55 (unhide HI) (unhide Z0) (unhide Z1) (unhide Z2) rfl (by decide) ao nq cap (acc.map Value.string) (by simp [Act.eval,Act.put]) ((unhide hM).ownAt ((unhide X5).alloc _)) ⟨w5.heap.size,0,none⟩ 1 1 [.string nm1] (by simp [Act.eval,Act.put]) (by decide) rfl (cells_new w5 _ _) (one_str _) (by unfold maxLen;omega) (by omega) (by simp;omega) ?_;intro g2 cap6 w6 ho6 hg6 hw6;have RZ:=hide ((unhide hM).grown ((unhide X5).alloc _) hg6);have z0:=rowC (unhide RZ) 0 rfl;have z1:=rowC (unhide RZ) 1 rfl;have z2:=rowC (unhide RZ) 2 rfl;have z3:=rowC (unhide RZ) 3 rfl;have z4:=rowC (unhide RZ) 4 rfl;have z5:=rowC (unhide RZ) 5 rfl;have z6:=rowC (unhide RZ) 6 rfl;have zz:=rowF (unhide RZ);have HO6:=hide ho6;have HG6:=hide hg6;clear ho6 hg6 hw6)) | fail
    all_goals
     refine nrm_inB ?_
     have N5:=hide ((unhide hM).snoc (unhide X5) (unhide S5) _ (unhide HO6) (unhide HG6))
     clear d1 dz
     go_wp2_with (first
      | (have T9:=unhide N5;go_at_call 33;refine Calls.mono (unhide HTc _ T9.rs) ?_;rintro e w7 ⟨rfl,hs,hw⟩;have N6:=hide (T9.go hs hw);clear hw hs T9 N5)
      | (have T9:=unhide N6;go_at_call 31;refine Calls.mono (unhide HCl _ T9.rs) ?_;rintro e w8 ⟨rfl,hs,hw⟩;have N7:=hide (T9.go hs hw);clear hw hs T9 N6)
      | (have T9:=unhide N7;go_at_call 34;refine Calls.mono (unhide HBl _ T9.rs) ?_;rintro e w9 ⟨v,p5,rfl,hr,hp,hs,hw⟩;obtain ⟨k2,o2,s2,n2,l2⟩:=p5;rw [RepN] at hr;obtain ⟨a2,cap2,rfl,hcap2,hl3⟩:=hr;have NB:=hide (T9.body (k:=k2) (o:=o2) (s:=s2) (n2:=n2) hs hw hl3 hcap2);have P5:=hide hp;have d0:=rowC (T9.go hs hw).r3 0 rfl;have d1:=rowC (T9.go hs hw).r3 1 rfl;have d2:=rowC (T9.go hs hw).r3 2 rfl;have d3:=rowC (T9.go hs hw).r3 3 rfl;have d4:=rowC (T9.go hs hw).r3 4 rfl;have d5:=rowC (T9.go hs hw).r3 5 rfl;have d6:=rowC (T9.go hs hw).r3 6 rfl;have dz:=rowF (T9.go hs hw).r3;clear hw hs hl3 hp T9 N7))
     refine gen_world (F:=fun W => Code.wp _ _ _ _ W) ?_
     intro W9 hW9
     have NC0:FB g len T wd w W9 w2.heap.size RS.2 fnm (acc ++ [nm1]) (nq + 1) (some ⟨g2,0,none⟩) cap6 k2 o2 s2 n2 l2 l2.length a2 cap2:=by rw [hW9];exact unhide NB
     obtain ⟨lnq,NC1⟩:∃ m,FB g len T wd w W9 w2.heap.size RS.2 fnm (acc ++ [nm1]) (nq + 1) (some ⟨g2,0,none⟩) cap6 k2 o2 s2 n2 l2 m a2 cap2:=⟨_,NC0⟩
     obtain ⟨nq,NC2⟩:∃ m,FB g len T wd w W9 w2.heap.size RS.2 fnm (acc ++ [nm1]) m (some ⟨g2,0,none⟩) cap6 k2 o2 s2 n2 l2 lnq a2 cap2:=⟨_,NC1⟩
     have NC:=hide NC2
     clear NC0 NC1 NC2 NB hW9
     clear d0 d1 d2 d3 d4 d5 d6 dz
     have hBB:=(unhide NC).hB
     have hne1:(w2.heap.size == g) = false:=by simp;omega
     have hne2:(w.heap.size == w2.heap.size) = false:=by simp;omega
     have d1:W9.cell? ⟨w2.heap.size,1,none⟩ = some (.slice (some ⟨g2,0,none⟩) nq cap6):=rowC (unhide NC).r3 1 rfl
     obtain ⟨V9,i9,pl9,dp9,hrow9,-⟩:=(unhide NC).rs.ex
     have c6:W9.cell? ⟨g,6,none⟩ = some (.int .i64 wd):=rowC hrow9 6 rfl
     have cz:=rowF hrow9
     clear hrow9
     refine wp_nrm ?_
     first | skip;go_region_law (first | fail) | fail
     all_goals
      refine nrm_inB ?_
      have RQ:=(unhide NC).r3
      have RR:=(unhide NC).r2
      clear d1
      have q0:=rowC RQ 0 rfl
      have q1:=rowC RQ 1 rfl
      have q2:=rowC RQ 2 rfl
      have q3:=rowC RQ 3 rfl
      have q4:=rowC RQ 4 rfl
      have q5:=rowC RQ 5 rfl
      have q6:=rowC RQ 6 rfl
      have qz:=rowF RQ
      have r0:=rowC RR 0 rfl
      have r1:=rowC RR 1 rfl
      have r2:=rowC RR 2 rfl
      have r3:=rowC RR 3 rfl
      have r4:=rowC RR 4 rfl
      have r5:=rowC RR 5 rfl
      have r6:=rowC RR 6 rfl
      have rz:=rowF RR
      clear RQ RR
      go_wp2_with fail
      exact bodyPost_ret (v:=funV fnm (some ⟨g2,0,none⟩) nq cap6 k2 o2 s2 n2 a2 lnq cap2) (res_fun Tryz.results13 _ _ w.heap.size _ _ _ _ _ _ _ _ _ _ _ rfl ((unhide NC).end _)) rfl ((unhide NC).fin (fun e => by rw [unhide P5 e,unhide HRS1]))
   ·have hne4:=isS_ne hc
    have h4e:st4.e = 0:=by
     by_cases h9:st4.e = 0
     ·exact h9
     ·exact absurd (hnn.nil h9) hne4
    have hlt4:=next_lt_of hne4
    have hnl2:=name_le st4.next len
    have HQ2:Hd (PQ len F st4.next (acc ++ [nm1]) j):=Or.inl ⟨h4e,by rw [hEq,parLoop,hc];rfl,by omega,by simp;omega⟩
    have HTc:=hide (fun (W:World) (x:Rp W g len T wd st4) => takeS_yes x ⟨#[44]⟩ (by decide +kernel) hc)
    clear hEq hfu hQ hqn hnn hrow hc
    have d1:wr.cell? ⟨w2.heap.size,1,none⟩ = some (.slice ao nq cap):=rowC (unhide hM).r3 1 rfl
    have dz:=rowF (unhide hM).r3
    have hltw:=(unhide hM).lt
    have hn9:=(unhide hM).hn
    go_wp2_with fail
    have D0:Hd (Gr g wr wr.drew):=(Gr.refl _ _).drew
    have D1:Hd (Rp wr.drew g len T wd stc):=(unhide hM).rs.ext (Ext.drew (Ext.refl _))
    have HN3:=hide (unhide HN2 _ (unhide D1))
    refine wp_nrm ?_
    first | skip;go_region_law (first
     | (refine step_call_one rfl 32 (.tmp 21) 52 rfl _ (by simp [Act.eval,Act.put]) (enterRNm _ _) (Calls.mono (unhide HN3) ?_);rintro e w5 ⟨rfl,hs,hw⟩;have X5:=hide ((unhide D0).trans hw);have RG:=hide ((unhide X5).row (unhide hM).r3 (by omega));have d0:=rowC (unhide RG) 0 rfl;have d1:=rowC (unhide RG) 1 rfl;have d2:=rowC (unhide RG) 2 rfl;have d3:=rowC (unhide RG) 3 rfl;have d4:=rowC (unhide RG) 4 rfl;have d5:=rowC (unhide RG) 5 rfl;have d6:=rowC (unhide RG) 6 rfl;have dz:=rowF (unhide RG);have S5:=hide hs;have hb5:w2.heap.size < w5.heap.size:=(Array.getElem?_eq_some_iff.1 (unhide RG)).1;clear hw hs;refine ⟨_,rfl,?_⟩)
     | (refine step_append_where rfl (.tmp 20) (.tmp 23) 55 rfl (w.heap.size + 1) 9 i0 (.string emptyB) 1 16 Tryz.underlying55 (unhide HI) (unhide Z0) (unhide Z1) (unhide Z2) rfl (by decide) ao nq cap (acc.map Value.string) (by simp [Act.eval,Act.put]) ((unhide hM).ownAt ((unhide X5).alloc _)) ⟨w5.heap.size,0,none⟩ 1 1 [.string nm1] (by simp [Act.eval,Act.put]) (by decide) rfl (cells_new w5 _ _) (one_str _) (by unfold maxLen;omega) (by omega) (by simp;omega) ?_;intro g2 cap6 w6 ho6 hg6 hw6;have RZ:=hide ((unhide hM).grown ((unhide X5).alloc _) hg6);have z0:=rowC (unhide RZ) 0 rfl;have z1:=rowC (unhide RZ) 1 rfl;have z2:=rowC (unhide RZ) 2 rfl;have z3:=rowC (unhide RZ) 3 rfl;have z4:=rowC (unhide RZ) 4 rfl;have z5:=rowC (unhide RZ) 5 rfl;have z6:=rowC (unhide RZ) 6 rfl;have zz:=rowF (unhide RZ);have HO6:=hide ho6;have HG6:=hide hg6;clear ho6 hg6 hw6)) | fail
    all_goals
     refine nrm_inB ?_
     have N5:=hide ((unhide hM).snoc (unhide X5) (unhide S5) _ (unhide HO6) (unhide HG6))
     clear d1 dz
     go_wp2_with (have T9:=unhide N5;go_at_call 33;refine Calls.mono (unhide HTc _ T9.rs) ?_;rintro e w7 ⟨rfl,hs,hw⟩;have N6:=hide (T9.go hs hw);clear hw hs T9 N5)
     have hm1:=rleft_eq (unhide N6).rs
     rw [if_pos (show st4.next.e = 0 from h4e)] at hm1
     go_roundw
     case rel => exact ⟨_,_,_,_,st4.next,j,N6,HQ2⟩
     case measure => rw [hm0,hm1];omega
  ·have he2:(stc.e == 0) = false:=by simpa using hec
   have HNE:Hd (F.2.e ≠ 0):=by rw [Hd,(hkp.bad hec).1];exact hec
   have N6:=hide ((unhide hM).as hkp hec)
   obtain ⟨c0,c1,c2,c3,c4,c5,c6,zf⟩:=rp_c hrow
   clear hQ hrow hkp hec
   go_wp2_with (first
    | (have T9:=unhide N6;go_at_call 31;refine Calls.mono (unhide HCl _ T9.rs) ?_;rintro e w8 ⟨rfl,hs,hw⟩;have N7:=hide (T9.go hs hw);clear hw hs T9 N6)
    | (have T9:=unhide N7;go_at_call 34;refine Calls.mono (unhide HBl _ T9.rs) ?_;rintro e w9 ⟨v,p5,rfl,hr,hp,hs,hw⟩;obtain ⟨k2,o2,s2,n2,l2⟩:=p5;rw [RepN] at hr;obtain ⟨a2,cap2,rfl,hcap2,hl3⟩:=hr;have NB:=hide (T9.body (k:=k2) (o:=o2) (s:=s2) (n2:=n2) hs hw hl3 hcap2);have P5:=hide hp;have d0:=rowC (T9.go hs hw).r3 0 rfl;have d1:=rowC (T9.go hs hw).r3 1 rfl;have d2:=rowC (T9.go hs hw).r3 2 rfl;have d3:=rowC (T9.go hs hw).r3 3 rfl;have d4:=rowC (T9.go hs hw).r3 4 rfl;have d5:=rowC (T9.go hs hw).r3 5 rfl;have d6:=rowC (T9.go hs hw).r3 6 rfl;have dz:=rowF (T9.go hs hw).r3;clear hw hs hl3 hp T9 N7))
   refine gen_world (F:=fun W => Code.wp _ _ _ _ W) ?_
   intro W9 hW9
   have NC0:FB g len T wd w W9 w2.heap.size RS.2 fnm acc nq ao cap k2 o2 s2 n2 l2 l2.length a2 cap2:=by rw [hW9];exact unhide NB
   obtain ⟨lnq,NC1⟩:∃ m,FB g len T wd w W9 w2.heap.size RS.2 fnm acc nq ao cap k2 o2 s2 n2 l2 m a2 cap2:=⟨_,NC0⟩
   obtain ⟨nq,NC2⟩:∃ m,FB g len T wd w W9 w2.heap.size RS.2 fnm acc m ao cap k2 o2 s2 n2 l2 lnq a2 cap2:=⟨_,NC1⟩
   have NC:=hide NC2
   clear NC0 NC1 NC2 NB hW9
   clear d0 d1 d2 d3 d4 d5 d6 dz
   have hBB:=(unhide NC).hB
   have hne1:(w2.heap.size == g) = false:=by simp;omega
   have hne2:(w.heap.size == w2.heap.size) = false:=by simp;omega
   have d1:W9.cell? ⟨w2.heap.size,1,none⟩ = some (.slice ao nq cap):=rowC (unhide NC).r3 1 rfl
   obtain ⟨V9,i9,pl9,dp9,hrow9,-⟩:=(unhide NC).rs.ex
   have c6:W9.cell? ⟨g,6,none⟩ = some (.int .i64 wd):=rowC hrow9 6 rfl
   have cz:=rowF hrow9
   clear hrow9
   refine wp_nrm ?_
   first | skip;go_region_law (first | fail) | fail
   all_goals
    refine nrm_inB ?_
    have RQ:=(unhide NC).r3
    have RR:=(unhide NC).r2
    clear d1
    have q0:=rowC RQ 0 rfl
    have q1:=rowC RQ 1 rfl
    have q2:=rowC RQ 2 rfl
    have q3:=rowC RQ 3 rfl
    have q4:=rowC RQ 4 rfl
    have q5:=rowC RQ 5 rfl
    have q6:=rowC RQ 6 rfl
    have qz:=rowF RQ
    have r0:=rowC RR 0 rfl
    have r1:=rowC RR 1 rfl
    have r2:=rowC RR 2 rfl
    have r3:=rowC RR 3 rfl
    have r4:=rowC RR 4 rfl
    have r5:=rowC RR 5 rfl
    have r6:=rowC RR 6 rfl
    have rz:=rowF RR
    clear RQ RR
    go_wp2_with fail
    exact bodyPost_ret (v:=funV fnm ao nq cap k2 o2 s2 n2 a2 lnq cap2) (res_fun Tryz.results13 _ _ w.heap.size _ _ _ _ _ _ _ _ _ _ _ rfl ((unhide NC).end _)) rfl ((unhide NC).fin (fun e => absurd (unhide HE e) (unhide HNE)))
end Go.Proofs.YtgkdmgndebifiaaGreatDoor
