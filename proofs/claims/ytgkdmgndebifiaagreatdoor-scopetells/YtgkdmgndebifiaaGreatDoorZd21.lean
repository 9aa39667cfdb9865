/- A block,in the document's own reader. · At the text's end a statement fails there. · Plain statements,in the document's own reader. · A statement of an expression,in the document's own reader. -/
import Derived.Test.YtgkdmgndebifiaaGreatDoorZd20
import Derived.Test.YtgkdmgndebifiaaGreatDoorZd6
set_option linter.unusedSimpArgs false
set_option linter.unusedVariables false
set_option maxRecDepth 10000
namespace Go.Proofs.YtgkdmgndebifiaaGreatDoor
open Go.RowKit
variable {w w':World} {g len:Nat} {T:List Tk} {wd:Int} {st:PS}
set_option maxHeartbeats 4000000 in
theorem block_none (sm:Rdr) (f:Nat) (hS:st.isS ⟨#[123]⟩ = false) (h:Rp w g len T wd st) :
  Calls Tryz.prog 34 #[.pointer (some ⟨g,0,none⟩)] w (RNode w g len T wd (blkP len sm f st)):=by
 have hg:=h.lt
 have e1:blkP len sm f st = (⟨10,0,emptyB,0,[]⟩,st.fail len 10):=by unfold blkP;rw [hS];rfl
 rw [e1]
 have HF:=hide (fun (W:World) (x:Rp W g len T wd st) => fail_r x 10 (by decide))
 have H:=hide h
 have hwg:(w.heap.size == g) = false:=by simp;omega
 by_cases h0:st.e = 0
 ·have HI:Hd (∀ W,Rp W g len T wd st → Calls Tryz.prog 49 #[.pointer (some ⟨g,0,none⟩),.string ⟨#[123]⟩] W fun e w' => e = .returned (.bool false) ∧ Ext W w'):=fun W x => by
   have:=is_r x h0 ⟨#[123]⟩
   rw [isA_S x h0 (by decide +kernel),hS] at this
   exact this
  obtain ⟨V,i,pl,dp,h1,-⟩:=h.ex
  rw [h0] at h1
  obtain ⟨c0,c1,c2,c3,c4,c5,c6,zf⟩:=rp_c h1
  clear h1 h e1
  go_enter Tryz.func34,Tryz.ntmps34
  go_wp2_with (first
   | (go_at_call 49;refine Calls.mono (unhide HI _ ((unhide H).ext ((Ext.alloc w _).trans (Ext.alloc _ _)))) ?_;rintro e w1 ⟨rfl,hw⟩;have RB:=hide (hw.row ((Ext.alloc _ _).row (Go.heap_alloc_new w _)));have RN:=hide (hw.row (Go.heap_alloc_new (w.alloc _) _));have X1:=hide (((Ext.alloc w _).trans (Ext.alloc _ _)).trans hw);clear hw)
   | (have T9:=unhide X1;go_at_call 47;refine Calls.mono (unhide HF _ ((unhide H).ext T9)) ?_;rintro e w2 ⟨rfl,hs,hw⟩;have RC:=hide (hw.row (unhide RB) (by omega));have RD:=hide (hw.row (unhide RN) (by simp;omega));have r0:=rowC (unhide RC) 0 rfl;have r1:=rowC (unhide RC) 1 rfl;have r2:=rowC (unhide RC) 2 rfl;have r3:=rowC (unhide RC) 3 rfl;have r4:=rowC (unhide RC) 4 rfl;have rz:=rowF (unhide RC);have d0:=rowC (unhide RD) 0 rfl;have d1:=rowC (unhide RD) 1 rfl;have d2:=rowC (unhide RD) 2 rfl;have d3:=rowC (unhide RD) 3 rfl;have d4:=rowC (unhide RD) 4 rfl;simp only [size_alloc] at d0 d1 d2 d3 d4;have S2:=hide hs;have X2:=hide ((Gr.of T9).trans hw);clear hw hs T9))
  have hrowF:(set5 w2 w.heap.size 10 0 emptyB 0 (.slice none 0 0)).heap[w.heap.size]? = some (nodO 10 0 emptyB 0 (.slice none 0 0)):=set5_row (unhide RC) _ _ _ _ _
  exact bodyPost_ret (v:=nodV 10 0 emptyB 0 (.slice none 0 0)) (res_nodR Tryz.results34 _ _ w.heap.size _ _ _ _ _ rfl hrowF) rfl (rnode_end (l:=[]) hg (unhide S2) (unhide X2) (Nat.le_refl _) trivial (fun _ => rfl))
 ·have he3:(st.e != 0) = true:=by simp [h0]
  have he2:(st.e == 0) = false:=by simpa using h0
  obtain ⟨V,i,pl,dp,h1,-⟩:=h.ex
  obtain ⟨c0,c1,c2,c3,c4,c5,c6,zf⟩:=rp_c h1
  clear h1 h e1 h0
  go_enter Tryz.func34,Tryz.ntmps34
  go_wp2_with (go_at_call 47;refine Calls.mono (unhide HF _ ((unhide H).ext ((Ext.alloc w _).trans (Ext.alloc _ _)))) ?_;rintro e w2 ⟨rfl,hs,hw⟩;have RC:=hide (hw.row ((Ext.alloc _ _).row (Go.heap_alloc_new w _)) (by omega));have RD:=hide (hw.row (Go.heap_alloc_new (w.alloc _) _) (by simp;omega));have r0:=rowC (unhide RC) 0 rfl;have r1:=rowC (unhide RC) 1 rfl;have r2:=rowC (unhide RC) 2 rfl;have r3:=rowC (unhide RC) 3 rfl;have r4:=rowC (unhide RC) 4 rfl;have rz:=rowF (unhide RC);have d0:=rowC (unhide RD) 0 rfl;have d1:=rowC (unhide RD) 1 rfl;have d2:=rowC (unhide RD) 2 rfl;have d3:=rowC (unhide RD) 3 rfl;have d4:=rowC (unhide RD) 4 rfl;simp only [size_alloc] at d0 d1 d2 d3 d4;have S2:=hide hs;have X2:=hide ((Gr.of ((Ext.alloc w _).trans (Ext.alloc _ _))).trans hw);clear hw hs)
  have hrowF:(set5 w2 w.heap.size 10 0 emptyB 0 (.slice none 0 0)).heap[w.heap.size]? = some (nodO 10 0 emptyB 0 (.slice none 0 0)):=set5_row (unhide RC) _ _ _ _ _
  exact bodyPost_ret (v:=nodV 10 0 emptyB 0 (.slice none 0 0)) (res_nodR Tryz.results34 _ _ w.heap.size _ _ _ _ _ rfl hrowF) rfl (rnode_end (l:=[]) hg (unhide S2) (unhide X2) (Nat.le_refl _) trivial (fun _ => rfl))
theorem enterRStm (v:Value) (w:World):(callFunc 51 #[v]).run Tryz.prog w = .ok (.enter 51 #[v]) w:=by kernel_rfl
theorem nrm_inB {Q:Exit → Act → World → Prop} {a:Act} {w:World} (h:Q .normal a w):Nrm Q .normal a w:=h
set_option maxHeartbeats 8000000 in
theorem block_some (sm:Rdr) (f:Nat) (hgs:GoodR sm) (hS:st.isS ⟨#[123]⟩ = true) (hf:st.ts.length < f) (hf2:f ≤ 100000) (hlt:∀ s:PS,s.ts ≠ [] → (sm s).2.ts.length < s.ts.length)
  (hend:∀ s:PS,s.e = 0 → s.ts = [] → (sm s).2.e = 10 ∧ (sm s).2.pl = len)
  (hsm:∀ s:PS,s.ts.length < st.ts.length → ∀ W,Rp W g len T wd s → s.e = 0 → Calls Tryz.prog 51 #[.pointer (some ⟨g,0,none⟩)] W (RNode W g len T wd (sm s))) (h:Rp w g len T wd st) :
  Calls Tryz.prog 34 #[.pointer (some ⟨g,0,none⟩)] w (RNode w g len T wd (blkP len sm f st)):=by
 have hg:=h.lt
 have hne:=isS_ne hS
 have hnv:=h.nv
 have h0:st.e = 0:=by
  cases Decidable.em (st.e = 0) with
  | inl h => exact h
  | inr h9 => exact absurd (hnv.nil h9) hne
 obtain ⟨RS,hRS⟩:∃ RS:PN × PS,RS = blkP len sm f st:=⟨_,rfl⟩
 rw [← hRS]
 have e1:RS = (⟨10,0,emptyB,0,(blkLoop sm f [] (st.enter len).next).1⟩,((blkLoop sm f [] (st.enter len).next).2.sign len ⟨#[125]⟩).leave):=by rw [hRS];unfold blkP;rw [hS];rfl
 have H:=hide h
 have n1:=enter_nv hnv len
 have k1:=next_kp n1
 have n2:=k1.nv n1
 have k2:=blkLoop_kp hgs f [] _ n2
 have k3:=psign_kp (k2.nv n2) len ⟨#[125]⟩
 have kk:=k1.trans (k2.trans k3)
 have HI:Hd (∀ W,Rp W g len T wd st → Calls Tryz.prog 49 #[.pointer (some ⟨g,0,none⟩),.string ⟨#[123]⟩] W fun e w' => e = .returned (.bool true) ∧ Ext W w'):=fun W x => by
  have:=is_r x h0 ⟨#[123]⟩
  rw [isA_S x h0 (by decide +kernel),hS] at this
  exact this
 obtain ⟨V,i,pl,dp,h1,-⟩:=h.ex
 rw [h0] at h1
 obtain ⟨c0,c1,c2,c3,c4,c5,c6,zf⟩:=rp_c h1
 clear h1 h
 have IS:True:=trivial
 cases he:((st.enter len).e == 0)
 ·have hbe:(st.enter len).e ≠ 0:=by simpa using he
  have hb2:=kk.bad hbe
  have HR1:Hd (RS.2.e = (st.enter len).e):=by rw [Hd,e1];exact hb2.1
  have HR2:Hd (RS.2.pl = (st.enter len).pl):=by rw [Hd,e1];exact hb2.2
  have HR3:Hd (RS.2.ts = []):=by rw [Hd,e1];exact kk.nil (by rw [hb2.1];exact hbe)
  have HBE:=hide hbe
  have HIn:Hd (∀ W,Rp W g len T wd st → Calls Tryz.prog 50 #[.pointer (some ⟨g,0,none⟩)] W (RAns W g len T wd (.bool false) (st.enter len))):=fun W x => he ▸ in_r x
  clear n1 k1 n2 k2 k3 kk hb2 hbe he hRS e1
  go_enter Tryz.func34,Tryz.ntmps34
  go_wp2_with (first
   | (go_at_call 49;refine Calls.mono (unhide HI _ ((unhide H).ext ((Ext.alloc w _).trans (Ext.alloc _ _)))) ?_;rintro e w1 ⟨rfl,hw⟩;have RB:=hide (hw.row ((Ext.alloc _ _).row (Go.heap_alloc_new w _)));have RN:=hide (hw.row (Go.heap_alloc_new (w.alloc _) _));have X1:=hide (((Ext.alloc w _).trans (Ext.alloc _ _)).trans hw);clear hw)
   | (have T9:=unhide X1;go_at_call 50;refine Calls.mono (unhide HIn _ ((unhide H).ext T9)) ?_;rintro e w2 ⟨rfl,hs,hw⟩;have RC:=hide (hw.row (unhide RB) (by omega));have RD:=hide (hw.row (unhide RN) (by simp;omega));have r0:=rowC (unhide RC) 0 rfl;have r1:=rowC (unhide RC) 1 rfl;have r2:=rowC (unhide RC) 2 rfl;have r3:=rowC (unhide RC) 3 rfl;have r4:=rowC (unhide RC) 4 rfl;have rz:=rowF (unhide RC);have d0:=rowC (unhide RD) 0 rfl;have d1:=rowC (unhide RD) 1 rfl;have d2:=rowC (unhide RD) 2 rfl;have d3:=rowC (unhide RD) 3 rfl;have d4:=rowC (unhide RD) 4 rfl;skip;simp only [size_alloc] at d0 d1 d2 d3 d4;have S2:=hide hs;have X2:=hide ((Gr.of T9).trans hw);clear hw hs T9))
  have hrowF:(set5 w2 w.heap.size 10 0 emptyB 0 (.slice none 0 0)).heap[w.heap.size]? = some (nodO 10 0 emptyB 0 (.slice none 0 0)):=set5_row (unhide RC) _ _ _ _ _
  exact bodyPost_ret (v:=nodV 10 0 emptyB 0 (.slice none 0 0)) (res_nodR Tryz.results34 _ _ w.heap.size _ _ _ _ _ rfl hrowF) rfl (rnode_end (l:=[]) hg ((unhide S2).as2 (unhide HBE) (unhide HR1) (unhide HR2) (unhide HR3)) (unhide X2) (Nat.le_refl _) trivial (fun e => absurd ((unhide HR1).symm.trans e) (unhide HBE)))
 ·have hbe:(st.enter len).e = 0:=by simpa using he
  have hup:=(enter_ok hbe).2
  have hets:(st.enter len).ts = st.ts:=by rw [hup];rfl
  have heop:(st.enter len).op = wrap64 (st.op + 1):=by rw [hup];rfl
  have hrg:=hnv.rng h0
  have HIn:Hd (∀ W,Rp W g len T wd st → Calls Tryz.prog 50 #[.pointer (some ⟨g,0,none⟩)] W (RAns W g len T wd (.bool true) (st.enter len))):=fun W x => he ▸ in_r x
  have hn1:(st.enter len).next.ts.length < st.ts.length:=by rw [← hets];exact next_lt_of (by rw [hets];exact hne)
  have hes2:(st.enter len).next.e = 0:=hbe
  have HKK:=hide kk
  obtain ⟨F,hF⟩:∃ F,F = blkLoop sm f [] (st.enter len).next:=⟨_,rfl⟩
  rw [← hF] at e1 kk HKK
  have HRS:=hide e1
  have HF:=hide hF
  have HX:=hide hsm
  have HLT:=hide hlt
  have HEND:=hide hend
  have HGS:=hide hgs
  clear n1 k1 n2 k2 k3 kk he hRS hup e1 hF hsm hlt hend hgs
  obtain ⟨i0,hi,hz0,hz1,hz2⟩:=info_parts infoN
  have HIN:=hide hi
  have Z0:=hide hz0
  have Z1:=hide hz1
  have Z2:=hide hz2
  clear hi hz0 hz1 hz2
  go_enter Tryz.func34,Tryz.ntmps34
  go_wp2_with (first
   | (go_at_call 49;refine Calls.mono (unhide HI _ ((unhide H).ext ((Ext.alloc w _).trans (Ext.alloc _ _)))) ?_;rintro e w1 ⟨rfl,hw⟩;have RB:=hide (hw.row ((Ext.alloc _ _).row (Go.heap_alloc_new w _)));have RN:=hide (hw.row (Go.heap_alloc_new (w.alloc _) _));have X1:=hide (((Ext.alloc w _).trans (Ext.alloc _ _)).trans hw);clear hw)
   | (have T9:=unhide X1;go_at_call 50;refine Calls.mono (unhide HIn _ ((unhide H).ext T9)) ?_;rintro e w2 ⟨rfl,hs,hw⟩;have RC:=hide (hw.row (unhide RB) (by omega));have RD:=hide (hw.row (unhide RN) (by simp;omega));have G2:=hide ((Gr.of T9).trans hw);obtain ⟨i4,c1,hi4,hstep⟩:=hs.step hbe (by rw [hets];exact hne);obtain ⟨V4,i5,pl4,dp4,hrow4,-⟩:=hs.ex;have zf:=rowF hrow4;have HStep:=hide hstep;clear hw hs T9 hstep hrow4))
  obtain ⟨W3,hW3⟩:∃ W3,W3 = w2.setCell ⟨g,1,none⟩ (.int .i64 ((i4:Int) + 1)):=⟨_,rfl⟩
  have MI:Hd (RBkI g len T wd sm w W3 F (st.enter len).next f [] [] none 0):=by
   refine ⟨Or.inl (unhide HF),fun _ => rfl,fun _ => by omega,fun _ => by simp;omega,hg,?_,?_,?_,?_,HoldB.nil _ _⟩
   ·rw [hW3];exact unhide HStep w2 (Gr.refl _ _) rfl
   ·rw [hW3];exact (unhide G2).set (p:=⟨g,_,none⟩) (Or.inr rfl) _
   ·rw [hW3];exact row_other (unhide RC) (by show w.heap.size ≠ g;omega) _ _
   ·rw [hW3];refine row_other ?_ (by show w.heap.size + 1 ≠ g;omega) _ _
    have h:=unhide RD;rw [size_alloc] at h;exact h
  rw [← hW3]
  clear RB RN X1 RC RD G2 c0 c1 c2 c3 c4 c5 c6 zf HStep HF HIn HI H hW3
  generalize (st.enter len).next = st3 at *
  go_loopw [] (fun wr => ∃ (acc ps:List PN) (ao:Option Addr) (cap:Nat) (stc:PS) (j:Nat),Hd (RBkI g len T wd sm w wr F stc j acc ps ao cap) ∧ stc.ts.length < st.ts.length) (fun wr => rleft g T.length wr)
  case atStart => exact ⟨_,_,_,_,st3,f,MI,hn1⟩
  case round =>
   clear MI
   obtain ⟨acc,ps,ao,cap,stc,j,hM,hle⟩:=hrel
   have hnvc:=(unhide hM).rs.nv
   obtain ⟨V,i,pl,dp,hrow,-⟩:=(unhide hM).rs.ex
   have hwr3:w.heap.size + 1 < wr.heap.size:=(Array.getElem?_eq_some_iff.1 (unhide hM).r3).1
   by_cases hec:stc.e = 0
   ·have hfu:=(unhide hM).fuel hec
    have hbd:=(unhide hM).bnd hec
    obtain ⟨j,rfl⟩:∃ i,j = i + 1:=⟨j - 1,by omega⟩
    rw [hec] at hrow
    obtain ⟨c0,c1,c2,c3,c4,c5,c6,zf⟩:=rp_c hrow
    have HIs:Hd (Calls Tryz.prog 49 #[.pointer (some ⟨g,0,none⟩),.string ⟨#[125]⟩] wr fun e w' => e = .returned (.bool (stc.isS ⟨#[125]⟩)) ∧ Ext wr w'):=by
     have:=is_r (unhide hM).rs hec ⟨#[125]⟩
     rw [isA_S (unhide hM).rs hec (by decide +kernel)] at this
     exact this
    cases hb:stc.isS ⟨#[125]⟩
    ·rw [hb] at HIs
     have HX1:=hide (fun (W:World) (x:Rp W g len T wd stc) => unhide HX stc hle W x hec)
     have hm0:=rleft_eq (unhide hM).rs
     rw [if_pos hec] at hm0
     have hE:F = blkLoop sm (j + 1) acc stc:=by
      rcases (unhide hM).eq with h | h
      ·exact h
      ·exact absurd hec h.1
     have hnpc:=(unhide hM).np hec
     have hkp:=unhide HGS stc hnvc
     have hEq:∀ (p5:PN),((sm stc).2.e = 0 → p5 = (sm stc).1) → BkEq len sm F j (acc ++ [(sm stc).1]) (sm stc).2 ∧ ((sm stc).2.e = 0 → ps ++ [p5] = acc ++ [(sm stc).1]) ∧ ((sm stc).2.e = 0 → (sm stc).2.ts.length < j) ∧ ((sm stc).2.e = 0 → ps.length + 1 + (sm stc).2.ts.length ≤ 100001) ∧ (sm stc).2.ts.length < st.ts.length ∧ (if (sm stc).2.e = 0 then 1 + (sm stc).2.ts.length else 0) < 1 + stc.ts.length:=by
      intro p5 hp5
      by_cases hts:stc.ts = []
      ·obtain ⟨q1,q2⟩:=unhide HEND stc hec hts
       have q3:=hkp.nil (by rw [q1];decide)
       have hstop:stc.stop = true:=by unfold PS.stop;rw [hts];rfl
       have hF:F = (acc,stc):=by rw [hE,blkLoop,hstop];rfl
       have hsg:stc.sign len ⟨#[125]⟩ = stc.fail len 10:=by unfold PS.sign;rw [hb];rfl
       have hfl:stc.fail len 10 = ⟨[],stc.op,len,10⟩:=by unfold PS.fail;rw [if_pos hec];unfold PS.here;rw [hts]
       refine ⟨Or.inr ⟨by rw [q1];decide,?_,?_⟩,fun e => absurd (q1.symm.trans e) (by decide),fun e => absurd (q1.symm.trans e) (by decide),fun e => absurd (q1.symm.trans e) (by decide),by rw [q3];simp;omega,by rw [q1,if_neg (by decide)];omega⟩
       ·rw [hF];show (stc.sign len ⟨#[125]⟩).e = _;rw [hsg,hfl,q1]
       ·rw [hF];show (stc.sign len ⟨#[125]⟩).pl = _;rw [hsg,hfl,q2]
      ·have hl1:=unhide HLT stc hts
       have hstop:stc.stop = false:=by
        unfold PS.stop
        rw [hb,Bool.or_false]
        have:=List.length_pos_iff.2 hts
        simp
        exact hts
       refine ⟨Or.inl (by rw [hE,blkLoop,hstop];rfl),fun e => by rw [hnpc,hp5 e],fun _ => by omega,fun _ => by omega,by omega,?_⟩
       split <;> omega
     have HEq:=hide hEq
     clear hEq hE hnpc hkp hb
     obtain ⟨xs,hx⟩:=(unhide hM).hold.own
     have HXS:=hide (fun w2 (x:Gr g wr w2) => heldB_on hx x (by omega))
     clear hx hrow
     generalize sm stc = q at HX1 HEq
     obtain ⟨qn,st5⟩:=q
     generalize hA:ps.length = A at *
     go_wp2_with (go_at_call 49;refine Calls.mono (unhide HIs) ?_;rintro e w4 ⟨rfl,hw⟩;have X4:=hide hw;have RF:=hide (hw.row (unhide hM).r3);have d0:=rowC (unhide RF) 0 rfl;have d1:=rowC (unhide RF) 1 rfl;have d2:=rowC (unhide RF) 2 rfl;have d3:=rowC (unhide RF) 3 rfl;have d4:=rowC (unhide RF) 4 rfl;have dz:=rowF (unhide RF);have hb4:wr.heap.size ≤ w4.heap.size:=hw.le;clear hw)
     have D0:Hd (Gr g wr w4.drew):=(Gr.of (unhide X4)).drew
     have D1:Hd (Rp w4.drew g len T wd stc):=(unhide hM).rs.ext (Ext.drew (unhide X4))
     have HX2:=hide (unhide HX1 _ (unhide D1))
     refine wp_nrm ?_
     first | skip;go_region_law (first
      | (refine step_call_one rfl 51 (.tmp 41) 52 rfl _ (by simp [Act.eval,Act.put]) (enterRStm _ _) (Calls.mono (unhide HX2) ?_);rintro e w5 ⟨v,p5,rfl,hr,hp,hs,hw⟩;obtain ⟨k,o,s,n,l⟩:=p5;rw [RepN] at hr;obtain ⟨a,c,rfl,hcap,hl⟩:=hr;have X5:=hide ((unhide D0).trans hw);have RG:=hide ((unhide X5).row (unhide hM).r3 (by omega));have d0:=rowC (unhide RG) 0 rfl;have d1:=rowC (unhide RG) 1 rfl;have d2:=rowC (unhide RG) 2 rfl;have d3:=rowC (unhide RG) 3 rfl;have d4:=rowC (unhide RG) 4 rfl;have S5:=hide hs;have P5:=hide hp;have L5:Hd (RepNL w5 (Fr wr.heap.size w5.heap.size) l a):=RepNL.to (fun b hb => ⟨⟨Nat.le_trans hb4 hb.1,hb.2⟩,rfl⟩) _ _ hl;have hb5:w.heap.size + 1 < w5.heap.size:=(Array.getElem?_eq_some_iff.1 (unhide RG)).1;clear hw hs hl hp;refine ⟨_,rfl,?_⟩)
      | (refine step_append_where rfl (.tmp 40) (.tmp 43) 27 rfl (w.heap.size + 2) 29 i0 (nodV 0 0 emptyB 0 (.slice none 0 0)) 5 64 Tryz.underlying27 (unhide HIN) (unhide Z0) (unhide Z1) (unhide Z2) rfl (by decide) ao A cap xs (by simp [Act.eval,Act.put]) (unhide HXS _ ((unhide X5).alloc _)).1 ⟨w5.heap.size,0,none⟩ 1 1 [.int .i64 k,.int .i64 o,.string s,.int .i64 n,.slice a l.length c] (by simp [Act.eval,Act.put]) (by decide) rfl (cells_new w5 _ _) (one_cells _ _ _ _ _ _ _) (by unfold maxLen;omega) (by omega) (by simp;omega) ?_;intro g2 cap6 w6 ho6 hg6 hw6;have RZ:=hide ((below_grown (unhide HXS _ ((unhide X5).alloc _)).1 hg6 (w.heap.size + 1) (by omega) (by simp;omega)).trans ((Ext.alloc _ _).row (unhide RG)));have z0:=rowC (unhide RZ) 0 rfl;have z1:=rowC (unhide RZ) 1 rfl;have z2:=rowC (unhide RZ) 2 rfl;have z3:=rowC (unhide RZ) 3 rfl;have z4:=rowC (unhide RZ) 4 rfl;have zz:=rowF (unhide RZ);have HO6:=hide ho6;have HG6:=hide hg6;have HW6:=hide hw6;clear ho6 hg6 hw6)) | fail
     all_goals
      subst hA
      obtain ⟨v1,v2,v3,v4,v5,v6⟩:=unhide HEq _ (unhide P5)
      have hN:=RBkI.snoc (k:=k) (o:=o) (n:=n) (s:=s) (unhide hM) v1 v2 v3 v4 (unhide X5) (unhide S5) hcap (unhide L5) _ (unhide HXS _ ((unhide X5).alloc _)) (unhide HO6) (unhide HG6) (by have h:=unhide HW6;rw [size_alloc] at h;exact h)
      refine nrm_inB ?_
      have MN:=hide hN
      have hm1:=rleft_eq hN.rs
      clear hN
      go_wp2_with fail
      go_roundw
      case rel => exact ⟨_,_,_,_,st5,j,MN,v5⟩
      case measure => rw [hm0];exact Nat.lt_of_le_of_lt (Nat.le_of_eq hm1) v6
    ·rw [hb] at HIs
     have hstop:stc.stop = true:=by unfold PS.stop;rw [hb,Bool.or_true]
     have hE:F = blkLoop sm (j + 1) acc stc:=by
      rcases (unhide hM).eq with h | h
      ·exact h
      ·exact absurd hec h.1
     have hnpc:=(unhide hM).np hec
     have hF:F = (ps,stc):=by rw [hE,blkLoop,hstop,hnpc];rfl
     have HG:=hide (fun (W:World) (x:Rp W g len T wd stc) => want_s x ⟨#[125]⟩ (by decide +kernel))
     have HOP:Hd ((stc.sign len ⟨#[125]⟩).e = 0 → 1 ≤ (stc.sign len ⟨#[125]⟩).op):=fun e => by
      have h9:=unhide HKK
      rw [hF] at h9
      have:=(h9.ok e).2
      rw [this,heop];unfold wrap64;omega
     have HRS2:Hd (RS = (⟨10,0,emptyB,0,ps⟩,(stc.sign len ⟨#[125]⟩).leave)):=by rw [Hd,unhide HRS,hF]
     have hwg:(w.heap.size == g) = false:=by simp;omega
     have hwg1:(w.heap.size + 1 == g) = false:=by simp;omega
     clear hE hnpc hF hstop hb hrow
     generalize hA:ps.length = A at *
     go_wp2_with (first
      | (go_at_call 49;refine Calls.mono (unhide HIs) ?_;rintro e w4 ⟨rfl,hw⟩;have XX:=hide (Gr.of (g:=g) hw);have S4:=hide ((unhide hM).rs.ext hw);clear hw)
      | (have T9:=unhide S4;go_at_call 31;refine Calls.mono (unhide HG _ T9) ?_;rintro e w6 ⟨rfl,hs,hw⟩;have X6:=hide ((unhide XX).trans hw);have RE:=hide ((unhide X6).row (unhide hM).r2 (by omega));have RQ:=hide ((unhide X6).row (unhide hM).r3 (by omega));have r0:=rowC (unhide RE) 0 rfl;have r1:=rowC (unhide RE) 1 rfl;have r2:=rowC (unhide RE) 2 rfl;have r3:=rowC (unhide RE) 3 rfl;have r4:=rowC (unhide RE) 4 rfl;have rz:=rowF (unhide RE);have q0:=rowC (unhide RQ) 0 rfl;have q1:=rowC (unhide RQ) 1 rfl;have q2:=rowC (unhide RQ) 2 rfl;have q3:=rowC (unhide RQ) 3 rfl;have q4:=rowC (unhide RQ) 4 rfl;have qz:=rowF (unhide RQ);obtain ⟨dp6,c4,hshut⟩:=hs.shut (unhide HOP);obtain ⟨V6,i6,pl6,dpx,hrow6,-⟩:=hs.ex;have zf:=rowF hrow6;have HShut:=hide hshut;have hb56:w.heap.size + 1 < w6.heap.size:=(Array.getElem?_eq_some_iff.1 (unhide RQ)).1;clear hw hs hshut hrow6 T9))
     subst hA
     obtain ⟨W7,hW7⟩:∃ W7,W7 = w6.setCell ⟨g,4,none⟩ (.int .i64 (wrap64 (dp6 - 1))):=⟨_,rfl⟩
     have hS7:=unhide HShut w6 (Gr.refl _ _) rfl
     rw [← hW7] at hS7 ⊢
     have hG67:Gr g w6 W7:=by rw [hW7];exact (Gr.refl _ _).set (p:=⟨g,_,none⟩) (Or.inr rfl) _
     have hrowF:(set5 W7 w.heap.size 10 0 emptyB 0 (.slice ao ps.length cap)).heap[w.heap.size]? = some (nodO 10 0 emptyB 0 (.slice ao ps.length cap)):=set5_row (hG67.row (unhide RE) (by omega)) _ _ _ _ _
     obtain ⟨d1,d2⟩:=((unhide hM).hold.on ((unhide X6).trans hG67) (by omega)).done
     exact bodyPost_ret (v:=nodV 10 0 emptyB 0 (.slice ao ps.length cap)) (res_nodR Tryz.results34 _ _ w.heap.size _ _ _ _ _ rfl hrowF) rfl (rnode_end hg (by rw [unhide HRS2];exact hS7) (((unhide hM).gr.trans (unhide X6)).trans hG67) d1 (RepNL.to (fun b hb => ⟨⟨by have:=hb.1;omega,hb.2⟩,rfl⟩) _ _ d2) (fun _ => by rw [unhide HRS2]))
   ·have he2:(stc.e == 0) = false:=by simpa using hec
    have hts:=hnvc.nil hec
    have hsg:stc.sign len ⟨#[125]⟩ = stc.fail len 10:=by unfold PS.sign;rw [isS_nil hts];rfl
    have hfl:stc.fail len 10 = ⟨[],stc.op,stc.pl,stc.e⟩:=by unfold PS.fail;rw [if_neg hec]
    have hEE:(F.2.sign len ⟨#[125]⟩).e = stc.e ∧ (F.2.sign len ⟨#[125]⟩).pl = stc.pl:=by
     rcases (unhide hM).eq with h | h
     ·have hF2:F.2 = stc:=by
       rw [h]
       cases j with
       | zero => rfl
       | succ j =>
        have hstop:stc.stop = true:=by unfold PS.stop;rw [hts];rfl
        rw [blkLoop,hstop];rfl
      rw [hF2,hsg,hfl]
      exact ⟨rfl,rfl⟩
     ·exact h.2
    have HE1:Hd (RS.2.e = (stc.sign len ⟨#[125]⟩).leave.e):=by rw [Hd,unhide HRS,hsg,hfl];exact hEE.1
    have HE2:Hd (RS.2.pl = (stc.sign len ⟨#[125]⟩).leave.pl):=by rw [Hd,unhide HRS,hsg,hfl];exact hEE.2
    have HE3:Hd (RS.2.ts = []):=by
     have h9:=unhide HKK
     rw [Hd,unhide HRS]
     exact h9.nil (by rw [hEE.1];exact hec)
    have HEN:Hd ((stc.sign len ⟨#[125]⟩).leave.e ≠ 0):=by rw [Hd,hsg,hfl];exact hec
    have HG:=hide (fun (W:World) (x:Rp W g len T wd stc) => want_s x ⟨#[125]⟩ (by decide +kernel))
    have HOP:Hd ((stc.sign len ⟨#[125]⟩).e = 0 → 1 ≤ (stc.sign len ⟨#[125]⟩).op):=fun e => by rw [hsg,hfl] at e;exact absurd e hec
    obtain ⟨c0,c1,c2,c3,c4,c5,c6,zf⟩:=rp_c hrow
    have XX:Hd (Gr g wr wr):=Gr.refl _ _
    have S4:=hide (unhide hM).rs
    have hwg:(w.heap.size == g) = false:=by simp;omega
    have hwg1:(w.heap.size + 1 == g) = false:=by simp;omega
    clear hrow hsg hfl hEE hec
    generalize hA:ps.length = A at *
    go_wp2_with (have T9:=unhide S4;go_at_call 31;refine Calls.mono (unhide HG _ T9) ?_;rintro e w6 ⟨rfl,hs,hw⟩;have X6:=hide ((unhide XX).trans hw);have RE:=hide ((unhide X6).row (unhide hM).r2 (by omega));have RQ:=hide ((unhide X6).row (unhide hM).r3 (by omega));have r0:=rowC (unhide RE) 0 rfl;have r1:=rowC (unhide RE) 1 rfl;have r2:=rowC (unhide RE) 2 rfl;have r3:=rowC (unhide RE) 3 rfl;have r4:=rowC (unhide RE) 4 rfl;have rz:=rowF (unhide RE);have q0:=rowC (unhide RQ) 0 rfl;have q1:=rowC (unhide RQ) 1 rfl;have q2:=rowC (unhide RQ) 2 rfl;have q3:=rowC (unhide RQ) 3 rfl;have q4:=rowC (unhide RQ) 4 rfl;have qz:=rowF (unhide RQ);obtain ⟨dp6,c4,hshut⟩:=hs.shut (unhide HOP);obtain ⟨V6,i6,pl6,dpx,hrow6,-⟩:=hs.ex;have zf:=rowF hrow6;have HShut:=hide hshut;have hb56:w.heap.size + 1 < w6.heap.size:=(Array.getElem?_eq_some_iff.1 (unhide RQ)).1;clear hw hs hshut hrow6 T9)
    subst hA
    obtain ⟨W7,hW7⟩:∃ W7,W7 = w6.setCell ⟨g,4,none⟩ (.int .i64 (wrap64 (dp6 - 1))):=⟨_,rfl⟩
    have hS7:=unhide HShut w6 (Gr.refl _ _) rfl
    rw [← hW7] at hS7 ⊢
    have hG67:Gr g w6 W7:=by rw [hW7];exact (Gr.refl _ _).set (p:=⟨g,_,none⟩) (Or.inr rfl) _
    have hrowF:(set5 W7 w.heap.size 10 0 emptyB 0 (.slice ao ps.length cap)).heap[w.heap.size]? = some (nodO 10 0 emptyB 0 (.slice ao ps.length cap)):=set5_row (hG67.row (unhide RE) (by omega)) _ _ _ _ _
    obtain ⟨d1,d2⟩:=((unhide hM).hold.on ((unhide X6).trans hG67) (by omega)).done
    exact bodyPost_ret (v:=nodV 10 0 emptyB 0 (.slice ao ps.length cap)) (res_nodR Tryz.results34 _ _ w.heap.size _ _ _ _ _ rfl hrowF) rfl (rnode_end hg (hS7.as2 (unhide HEN) (unhide HE1) (unhide HE2) (unhide HE3)) (((unhide hM).gr.trans (unhide X6)).trans hG67) d1 (RepNL.to (fun b hb => ⟨⟨by have:=hb.1;omega,hb.2⟩,rfl⟩) _ _ d2) (fun e => absurd ((unhide HE1).symm.trans e) (unhide HEN)))
end Go.Proofs.YtgkdmgndebifiaaGreatDoor
namespace Go.Proofs.YtgkdmgndebifiaaGreatDoor
open Go.RowKit
def Ends (len:Nat) (rd:Rdr):Prop:=∀ st:PS,st.ts = [] → st.e = 0 → (rd st).2 = st.fail len 10
theorem loop_end {lv:Int} {sub:Rdr}:∀ (f:Nat) (p:PN) (st:PS),st.ts = [] → (loopP lv sub f p st).2 = st
 | 0,p,st,_ => rfl
 | f + 1,p,st,h => by rw [loopP,takeO_nil h]
theorem lev_end {len:Nat} {lv:Int} {sub:Rdr} (h:Ends len sub) (f:Nat):Ends len (levP lv sub f):=fun st ht he => by
 unfold levP
 rw [h st ht he]
 exact loop_end f _ _ (fail_ts _ _ _)
theorem cmp_end {len:Nat} {sub:Rdr} (h:Ends len sub):Ends len (cmpP sub):=fun st ht he => by
 unfold cmpP
 rw [h st ht he,takeO_nil (fail_ts _ _ _)]
theorem oper_nil {st:PS} (h:st.ts = []) (lv:Int):st.oper lv = none:=by
 unfold PS.oper
 rw [hd_nil h]
 rfl
theorem sgl_end (len:Nat) (ex:Rdr) (f:Nat):Ends len (sglP len ex f):=fun st ht he => by
 unfold sglP
 have hc:st.isCall = false:=by unfold PS.isCall;rw [hd_nil ht];rfl
 rw [isS_nil ht,isS_nil ht,isW_nil ht,hc]
 unfold litP
 rw [hd_nil ht]
 rfl
theorem ix_end {len:Nat} {ex:Rdr}:∀ (f:Nat) (p:PN) (st:PS),st.ts = [] → (ixLoopP len ex f p st).2 = st
 | 0,p,st,_ => rfl
 | f + 1,p,st,h => by rw [ixLoopP,oper_nil h]
theorem idx_end (len:Nat) (ex:Rdr) (f:Nat):Ends len (idxP len ex f):=fun st ht he => by
 unfold idxP
 rw [sgl_end len ex f st ht he]
 exact ix_end f _ _ (fail_ts _ _ _)
theorem sgn_end (len:Nat) (sg ex:Rdr) (f:Nat):Ends len (sgnP len sg ex f):=fun st ht he => by
 unfold sgnP
 rw [oper_nil ht]
 exact idx_end len ex f st ht he
theorem ex_end (len f:Nat):Ends len (exP len (f + 1)):=by
 have e2:exP len (f + 1) = orP (sgnP len (bothP len f).1 (bothP len f).2 (f + 1)) (f + 1):=by unfold exP;rw [bothP]
 rw [e2]
 exact lev_end (lev_end (cmp_end (lev_end (lev_end (sgn_end len _ _ _) _) _)) _) _
theorem stm_end {len:Nat} {ex bl ch:Rdr} (h:Ends len ex) (st:PS) (he:st.e = 0) (ht:st.ts = []):(stmP len ex bl ch st).2.e = 10 ∧ (stmP len ex bl ch st).2.pl = len:=by
 have hs:st.isSet = false:=by unfold PS.isSet;rw [hd_nil ht];rfl
 unfold stmP
 rw [isW_nil ht,hs,isW_nil ht,isW_nil ht,isW_nil ht,isW_nil ht,isW_nil ht,isW_nil ht]
 simp only [Bool.false_eq_true,if_false]
 unfold ofExP
 simp only
 rw [h st ht he]
 have hf:st.fail len 10 = ⟨[],st.op,len,10⟩:=by unfold PS.fail;rw [if_pos he];unfold PS.here;rw [ht]
 rw [hf]
 exact ⟨rfl,rfl⟩
end Go.Proofs.YtgkdmgndebifiaaGreatDoor
namespace Go.Proofs.YtgkdmgndebifiaaGreatDoor
open Go.RowKit
variable {w w':World} {g len:Nat} {T:List Tk} {wd:Int} {st:PS}
theorem onlyW {st:PS} {s t:ByteArray} (h:st.isW s = true) (hne:(s.toList == t.toList) = false):st.isW t = false:=by
 unfold PS.isW isT at h ⊢
 rw [Bool.and_eq_true] at h
 have h2:(hdT st.ts 0).t.toList = s.toList:=by simpa using h.2
 rw [h2,hne,Bool.and_false]
theorem notSet {st:PS} {s:ByteArray} (h:st.isW s = true):st.isSet = false:=by
 unfold PS.isW isT at h
 rw [Bool.and_eq_true] at h
 have h2:(hdT st.ts 0).k = 2:=by simpa using h.1
 unfold PS.isSet
 rw [h2]
 rfl
theorem take_no (h:Rp w g len T wd st) (s:ByteArray) (hs:(o2 s.toList || o1 s.toList) = false) (hW:st.isW s = false):Calls Tryz.prog 33 #[.pointer (some ⟨g,0,none⟩),.string s] w (RAns w g len T wd (.bool false) st):=by
 have:=take_w h s hs
 have e:st.takeW s = (false,st):=by unfold PS.takeW;rw [hW];rfl
 rw [e] at this
 exact this
theorem take_yes (h:Rp w g len T wd st) (s:ByteArray) (hs:(o2 s.toList || o1 s.toList) = false) (hW:st.isW s = true):Calls Tryz.prog 33 #[.pointer (some ⟨g,0,none⟩),.string s] w (RAns w g len T wd (.bool true) st.next):=by
 have:=take_w h s hs
 have e:st.takeW s = (true,st.next):=by unfold PS.takeW;rw [hW];rfl
 rw [e] at this
 exact this
theorem is_no (h:Rp w g len T wd st) (h0:st.e = 0) (s:ByteArray) (hs:(o2 s.toList || o1 s.toList) = false) (hW:st.isW s = false):Calls Tryz.prog 49 #[.pointer (some ⟨g,0,none⟩),.string s] w fun e w' => e = .returned (.bool false) ∧ Ext w w':=by
 have:=is_r h h0 s
 rw [isA_W h h0 hs,hW] at this
 exact this
set_option maxHeartbeats 8000000 in
theorem stmt_break (ex bl ch:Rdr) (h0:st.e = 0) (hW:st.isW ⟨#[98,114,101,97,107]⟩ = true) (h:Rp w g len T wd st) :
  Calls Tryz.prog 51 #[.pointer (some ⟨g,0,none⟩)] w (RNode w g len T wd (stmP len ex bl ch st)):=by
 have hg:=h.lt
 have w_if:st.isW ⟨#[105,102]⟩ = false:=onlyW hW (by decide +kernel)
 have w_while:st.isW ⟨#[119,104,105,108,101]⟩ = false:=onlyW hW (by decide +kernel)
 have w_let:st.isW ⟨#[108,101,116]⟩ = false:=onlyW hW (by decide +kernel)
 have w_continue:st.isW ⟨#[99,111,110,116,105,110,117,101]⟩ = false:=onlyW hW (by decide +kernel)
 have w_return:st.isW ⟨#[114,101,116,117,114,110]⟩ = false:=onlyW hW (by decide +kernel)
 have w_print:st.isW ⟨#[112,114,105,110,116]⟩ = false:=onlyW hW (by decide +kernel)
 have e1:stmP len ex bl ch st = (⟨5,0,emptyB,0,[]⟩,st.next.sign len ⟨#[59]⟩):=by
  unfold stmP
  rw [w_let,notSet hW,w_if,w_while,hW]
  rfl
 rw [e1]
 have H:=hide h
 have HIf:=hide (fun (W:World) (x:Rp W g len T wd st) => is_no x h0 ⟨#[105,102]⟩ (by decide +kernel) w_if)
 have HT_while:=hide (fun (W:World) (x:Rp W g len T wd st) => take_no x ⟨#[119,104,105,108,101]⟩ (by decide +kernel) w_while)
 have HT_let:=hide (fun (W:World) (x:Rp W g len T wd st) => take_no x ⟨#[108,101,116]⟩ (by decide +kernel) w_let)
 have HTy:=hide (fun (W:World) (x:Rp W g len T wd st) => take_yes x ⟨#[98,114,101,97,107]⟩ (by decide +kernel) hW)
 have HG:=hide (fun (W:World) (x:Rp W g len T wd st.next) => want_s x ⟨#[59]⟩ (by decide +kernel))
 have hwg:(w.heap.size == g) = false:=by simp;omega
 have hwg1:(w.heap.size + 1 == g) = false:=by simp;omega
 clear h e1
 go_enter Tryz.func51,Tryz.ntmps51
 go_wp2_with (first
  | (go_at_call 49;refine Calls.mono (unhide HIf _ ((unhide H).ext ((Ext.alloc w _).trans (Ext.alloc _ _)))) ?_;rintro e w0 ⟨rfl,hw⟩;have RB0:=hide (hw.row ((Ext.alloc _ _).row (Go.heap_alloc_new w _)));have RN0:=hide (hw.row (Go.heap_alloc_new (w.alloc _) _));have G0:=hide ((Gr.of ((Ext.alloc w _).trans (Ext.alloc _ _))).trans (Gr.of (g:=g) hw));have S0:=hide ((unhide H).ext (((Ext.alloc w _).trans (Ext.alloc _ _)).trans hw));clear hw)
  | (have T9:=unhide S0;go_at_call 33;refine Calls.mono (unhide HT_while _ T9) ?_;rintro e w1 ⟨rfl,hs,hw⟩;have RB1:=hide (hw.row (unhide RB0) (by omega));have RN1:=hide (hw.row (unhide RN0) (by simp;omega));have G1:=hide ((unhide G0).trans hw);have S1:=hide hs;clear hw hs T9 S0 RB0 RN0 G0)
  | (have T9:=unhide S1;go_at_call 33;refine Calls.mono (unhide HT_let _ T9) ?_;rintro e w2 ⟨rfl,hs,hw⟩;have RB2:=hide (hw.row (unhide RB1) (by omega));have RN2:=hide (hw.row (unhide RN1) (by simp;omega));have G2:=hide ((unhide G1).trans hw);have S2:=hide hs;clear hw hs T9 S1 RB1 RN1 G1)
  | (have T9:=unhide S2;go_at_call 33;refine Calls.mono (unhide HTy _ T9) ?_;rintro e wy ⟨rfl,hs,hw⟩;have RBy:=hide (hw.row (unhide RB2) (by omega));have RNy:=hide (hw.row (unhide RN2) (by simp;omega));have Gy:=hide ((unhide G2).trans hw);have d0:=rowC (unhide RNy) 0 rfl;have d1:=rowC (unhide RNy) 1 rfl;have d2:=rowC (unhide RNy) 2 rfl;have d3:=rowC (unhide RNy) 3 rfl;have d4:=rowC (unhide RNy) 4 rfl;have dz:=rowF (unhide RNy);simp only [size_alloc] at d0 d1 d2 d3 d4 dz;have hyy:w.heap.size + 1 < wy.heap.size:=(by have:=(Array.getElem?_eq_some_iff.1 (unhide RNy)).1;rw [size_alloc] at this;exact this);have Sy:=hide hs;clear hw hs T9 S2 RB2 RN2 G2))
 obtain ⟨WZ,hWZ⟩:∃ WZ,WZ = wy.setCell ⟨w.heap.size + 1,0,none⟩ (.int .i64 5):=⟨_,rfl⟩
 have hSZ:Rp WZ g len T wd st.next:=by
  rw [hWZ]
  obtain ⟨V,i,pl,dp,h1,⟨a2,cap2,rfl,q1,q2,q3⟩,h3⟩:=(unhide Sy).ex
  refine ⟨⟨_,i,pl,dp,row_other h1 (by omega) _ _,⟨a2,cap2,rfl,q1,q2,?_⟩,h3⟩,(unhide Sy).nv,(unhide Sy).tk,(unhide Sy).tl⟩
  rcases q3 with q3 | ⟨b',off,rfl,hb',hcc⟩
  ·exact Or.inl q3
  ·refine Or.inr ⟨b',off,rfl,hb',fun j u hu => ?_⟩
   rw [World.cell?_of_block (w:=wy) (Below.heap_setCell wy ⟨w.heap.size + 1,0,none⟩ _ b' (by show b' ≠ w.heap.size + 1;omega))]
   exact hcc j u hu
 have hNZ:WZ.heap[w.heap.size + 1]? = some (nodO 5 0 emptyB 0 (.slice none 0 0)):=by
  rw [hWZ]
  have h:=unhide RNy
  rw [size_alloc] at h
  exact row_set h 0 (.int .i64 5)
 have hBZ:WZ.heap[w.heap.size]? = some (nodO 0 0 emptyB 0 (.slice none 0 0)):=by rw [hWZ];exact row_other (unhide RBy) (by show w.heap.size ≠ w.heap.size + 1;omega) _ _
 have hGZ:Gr g w WZ:=by rw [hWZ];exact (unhide Gy).set (p:=⟨w.heap.size + 1,_,none⟩) (Or.inl (by show w.heap.size ≤ w.heap.size + 1;omega)) _
 rw [← hWZ]
 have SZ:=hide hSZ
 have NZ:=hide hNZ
 have BZ:=hide hBZ
 have GZ:=hide hGZ
 clear hWZ hSZ hNZ hBZ hGZ RBy RNy Gy Sy d0 d1 d2 d3 d4 dz
 go_wp2_with (have T9:=unhide SZ;go_at_call 31;refine Calls.mono (unhide HG _ T9) ?_;rintro e w6 ⟨rfl,hs,hw⟩;have RE:=hide (hw.row (unhide BZ) (by omega));have RQ:=hide (hw.row (unhide NZ) (by omega));have r0:=rowC (unhide RE) 0 rfl;have r1:=rowC (unhide RE) 1 rfl;have r2:=rowC (unhide RE) 2 rfl;have r3:=rowC (unhide RE) 3 rfl;have r4:=rowC (unhide RE) 4 rfl;have rz:=rowF (unhide RE);have q0:=rowC (unhide RQ) 0 rfl;have q1:=rowC (unhide RQ) 1 rfl;have q2:=rowC (unhide RQ) 2 rfl;have q3:=rowC (unhide RQ) 3 rfl;have q4:=rowC (unhide RQ) 4 rfl;have qz:=rowF (unhide RQ);have S6:=hide hs;have G6:=hide ((unhide GZ).trans hw);clear hw hs T9)
 have hrowF:(set5 w6 w.heap.size 5 0 emptyB 0 (.slice none 0 0)).heap[w.heap.size]? = some (nodO 5 0 emptyB 0 (.slice none 0 0)):=set5_row (unhide RE) _ _ _ _ _
 exact bodyPost_ret (v:=nodV 5 0 emptyB 0 (.slice none 0 0)) (res_nodR Tryz.results51 _ _ w.heap.size _ _ _ _ _ rfl hrowF) rfl (rnode_end (l:=[]) hg (unhide S6) (unhide G6) (Nat.le_refl _) trivial (fun _ => rfl))
set_option maxHeartbeats 8000000 in
theorem stmt_continue (ex bl ch:Rdr) (h0:st.e = 0) (hW:st.isW ⟨#[99,111,110,116,105,110,117,101]⟩ = true) (h:Rp w g len T wd st) :
  Calls Tryz.prog 51 #[.pointer (some ⟨g,0,none⟩)] w (RNode w g len T wd (stmP len ex bl ch st)):=by
 have hg:=h.lt
 have w_if:st.isW ⟨#[105,102]⟩ = false:=onlyW hW (by decide +kernel)
 have w_while:st.isW ⟨#[119,104,105,108,101]⟩ = false:=onlyW hW (by decide +kernel)
 have w_let:st.isW ⟨#[108,101,116]⟩ = false:=onlyW hW (by decide +kernel)
 have w_break:st.isW ⟨#[98,114,101,97,107]⟩ = false:=onlyW hW (by decide +kernel)
 have w_return:st.isW ⟨#[114,101,116,117,114,110]⟩ = false:=onlyW hW (by decide +kernel)
 have w_print:st.isW ⟨#[112,114,105,110,116]⟩ = false:=onlyW hW (by decide +kernel)
 have e1:stmP len ex bl ch st = (⟨6,0,emptyB,0,[]⟩,st.next.sign len ⟨#[59]⟩):=by
  unfold stmP
  rw [w_let,notSet hW,w_if,w_while,w_break,hW]
  rfl
 rw [e1]
 have H:=hide h
 have HIf:=hide (fun (W:World) (x:Rp W g len T wd st) => is_no x h0 ⟨#[105,102]⟩ (by decide +kernel) w_if)
 have HT_while:=hide (fun (W:World) (x:Rp W g len T wd st) => take_no x ⟨#[119,104,105,108,101]⟩ (by decide +kernel) w_while)
 have HT_let:=hide (fun (W:World) (x:Rp W g len T wd st) => take_no x ⟨#[108,101,116]⟩ (by decide +kernel) w_let)
 have HT_break:=hide (fun (W:World) (x:Rp W g len T wd st) => take_no x ⟨#[98,114,101,97,107]⟩ (by decide +kernel) w_break)
 have HTy:=hide (fun (W:World) (x:Rp W g len T wd st) => take_yes x ⟨#[99,111,110,116,105,110,117,101]⟩ (by decide +kernel) hW)
 have HG:=hide (fun (W:World) (x:Rp W g len T wd st.next) => want_s x ⟨#[59]⟩ (by decide +kernel))
 have hwg:(w.heap.size == g) = false:=by simp;omega
 have hwg1:(w.heap.size + 1 == g) = false:=by simp;omega
 clear h e1
 go_enter Tryz.func51,Tryz.ntmps51
 go_wp2_with (first
  | (go_at_call 49;refine Calls.mono (unhide HIf _ ((unhide H).ext ((Ext.alloc w _).trans (Ext.alloc _ _)))) ?_;rintro e w0 ⟨rfl,hw⟩;have RB0:=hide (hw.row ((Ext.alloc _ _).row (Go.heap_alloc_new w _)));have RN0:=hide (hw.row (Go.heap_alloc_new (w.alloc _) _));have G0:=hide ((Gr.of ((Ext.alloc w _).trans (Ext.alloc _ _))).trans (Gr.of (g:=g) hw));have S0:=hide ((unhide H).ext (((Ext.alloc w _).trans (Ext.alloc _ _)).trans hw));clear hw)
  | (have T9:=unhide S0;go_at_call 33;refine Calls.mono (unhide HT_while _ T9) ?_;rintro e w1 ⟨rfl,hs,hw⟩;have RB1:=hide (hw.row (unhide RB0) (by omega));have RN1:=hide (hw.row (unhide RN0) (by simp;omega));have G1:=hide ((unhide G0).trans hw);have S1:=hide hs;clear hw hs T9 S0 RB0 RN0 G0)
  | (have T9:=unhide S1;go_at_call 33;refine Calls.mono (unhide HT_let _ T9) ?_;rintro e w2 ⟨rfl,hs,hw⟩;have RB2:=hide (hw.row (unhide RB1) (by omega));have RN2:=hide (hw.row (unhide RN1) (by simp;omega));have G2:=hide ((unhide G1).trans hw);have S2:=hide hs;clear hw hs T9 S1 RB1 RN1 G1)
  | (have T9:=unhide S2;go_at_call 33;refine Calls.mono (unhide HT_break _ T9) ?_;rintro e w3 ⟨rfl,hs,hw⟩;have RB3:=hide (hw.row (unhide RB2) (by omega));have RN3:=hide (hw.row (unhide RN2) (by simp;omega));have G3:=hide ((unhide G2).trans hw);have S3:=hide hs;clear hw hs T9 S2 RB2 RN2 G2)
  | (have T9:=unhide S3;go_at_call 33;refine Calls.mono (unhide HTy _ T9) ?_;rintro e wy ⟨rfl,hs,hw⟩;have RBy:=hide (hw.row (unhide RB3) (by omega));have RNy:=hide (hw.row (unhide RN3) (by simp;omega));have Gy:=hide ((unhide G3).trans hw);have d0:=rowC (unhide RNy) 0 rfl;have d1:=rowC (unhide RNy) 1 rfl;have d2:=rowC (unhide RNy) 2 rfl;have d3:=rowC (unhide RNy) 3 rfl;have d4:=rowC (unhide RNy) 4 rfl;have dz:=rowF (unhide RNy);simp only [size_alloc] at d0 d1 d2 d3 d4 dz;have hyy:w.heap.size + 1 < wy.heap.size:=(by have:=(Array.getElem?_eq_some_iff.1 (unhide RNy)).1;rw [size_alloc] at this;exact this);have Sy:=hide hs;clear hw hs T9 S3 RB3 RN3 G3))
 obtain ⟨WZ,hWZ⟩:∃ WZ,WZ = wy.setCell ⟨w.heap.size + 1,0,none⟩ (.int .i64 6):=⟨_,rfl⟩
 have hSZ:Rp WZ g len T wd st.next:=by
  rw [hWZ]
  obtain ⟨V,i,pl,dp,h1,⟨a2,cap2,rfl,q1,q2,q3⟩,h3⟩:=(unhide Sy).ex
  refine ⟨⟨_,i,pl,dp,row_other h1 (by omega) _ _,⟨a2,cap2,rfl,q1,q2,?_⟩,h3⟩,(unhide Sy).nv,(unhide Sy).tk,(unhide Sy).tl⟩
  rcases q3 with q3 | ⟨b',off,rfl,hb',hcc⟩
  ·exact Or.inl q3
  ·refine Or.inr ⟨b',off,rfl,hb',fun j u hu => ?_⟩
   rw [World.cell?_of_block (w:=wy) (Below.heap_setCell wy ⟨w.heap.size + 1,0,none⟩ _ b' (by show b' ≠ w.heap.size + 1;omega))]
   exact hcc j u hu
 have hNZ:WZ.heap[w.heap.size + 1]? = some (nodO 6 0 emptyB 0 (.slice none 0 0)):=by
  rw [hWZ]
  have h:=unhide RNy
  rw [size_alloc] at h
  exact row_set h 0 (.int .i64 6)
 have hBZ:WZ.heap[w.heap.size]? = some (nodO 0 0 emptyB 0 (.slice none 0 0)):=by rw [hWZ];exact row_other (unhide RBy) (by show w.heap.size ≠ w.heap.size + 1;omega) _ _
 have hGZ:Gr g w WZ:=by rw [hWZ];exact (unhide Gy).set (p:=⟨w.heap.size + 1,_,none⟩) (Or.inl (by show w.heap.size ≤ w.heap.size + 1;omega)) _
 rw [← hWZ]
 have SZ:=hide hSZ
 have NZ:=hide hNZ
 have BZ:=hide hBZ
 have GZ:=hide hGZ
 clear hWZ hSZ hNZ hBZ hGZ RBy RNy Gy Sy d0 d1 d2 d3 d4 dz
 go_wp2_with (have T9:=unhide SZ;go_at_call 31;refine Calls.mono (unhide HG _ T9) ?_;rintro e w6 ⟨rfl,hs,hw⟩;have RE:=hide (hw.row (unhide BZ) (by omega));have RQ:=hide (hw.row (unhide NZ) (by omega));have r0:=rowC (unhide RE) 0 rfl;have r1:=rowC (unhide RE) 1 rfl;have r2:=rowC (unhide RE) 2 rfl;have r3:=rowC (unhide RE) 3 rfl;have r4:=rowC (unhide RE) 4 rfl;have rz:=rowF (unhide RE);have q0:=rowC (unhide RQ) 0 rfl;have q1:=rowC (unhide RQ) 1 rfl;have q2:=rowC (unhide RQ) 2 rfl;have q3:=rowC (unhide RQ) 3 rfl;have q4:=rowC (unhide RQ) 4 rfl;have qz:=rowF (unhide RQ);have S6:=hide hs;have G6:=hide ((unhide GZ).trans hw);clear hw hs T9)
 have hrowF:(set5 w6 w.heap.size 6 0 emptyB 0 (.slice none 0 0)).heap[w.heap.size]? = some (nodO 6 0 emptyB 0 (.slice none 0 0)):=set5_row (unhide RE) _ _ _ _ _
 exact bodyPost_ret (v:=nodV 6 0 emptyB 0 (.slice none 0 0)) (res_nodR Tryz.results51 _ _ w.heap.size _ _ _ _ _ rfl hrowF) rfl (rnode_end (l:=[]) hg (unhide S6) (unhide G6) (Nat.le_refl _) trivial (fun _ => rfl))
end Go.Proofs.YtgkdmgndebifiaaGreatDoor
namespace Go.Proofs.YtgkdmgndebifiaaGreatDoor
open Go.RowKit
variable {w w':World} {g len:Nat} {T:List Tk} {wd:Int} {st:PS}
set_option maxHeartbeats 8000000 in
theorem stmt_print (ex bl ch:Rdr) (hge:GoodR ex) (hex:∀ s:PS,s.ts.length < st.ts.length → RIs g len T wd 1 ex s) (h0:st.e = 0) (hW:st.isW ⟨#[112,114,105,110,116]⟩ = true) (h:Rp w g len T wd st) :
  Calls Tryz.prog 51 #[.pointer (some ⟨g,0,none⟩)] w (RNode w g len T wd (stmP len ex bl ch st)):=by
 have hg:=h.lt
 have w_if:st.isW ⟨#[105,102]⟩ = false:=onlyW hW (by decide +kernel)
 have w_while:st.isW ⟨#[119,104,105,108,101]⟩ = false:=onlyW hW (by decide +kernel)
 have w_let:st.isW ⟨#[108,101,116]⟩ = false:=onlyW hW (by decide +kernel)
 have w_break:st.isW ⟨#[98,114,101,97,107]⟩ = false:=onlyW hW (by decide +kernel)
 have w_continue:st.isW ⟨#[99,111,110,116,105,110,117,101]⟩ = false:=onlyW hW (by decide +kernel)
 have w_return:st.isW ⟨#[114,101,116,117,114,110]⟩ = false:=onlyW hW (by decide +kernel)
 have e1:stmP len ex bl ch st = (⟨8,0,emptyB,0,[(ex st.next).1]⟩,(ex st.next).2.sign len ⟨#[59]⟩):=by
  unfold stmP
  rw [w_let,notSet hW,w_if,w_while,w_break,w_continue,w_return,hW]
  rfl
 rw [e1]
 have hn1:st.next.ts.length < st.ts.length:=next_lt_of (isW_ne hW)
 have H:=hide h
 have HIf:=hide (fun (W:World) (x:Rp W g len T wd st) => is_no x h0 ⟨#[105,102]⟩ (by decide +kernel) w_if)
 have HT_while:=hide (fun (W:World) (x:Rp W g len T wd st) => take_no x ⟨#[119,104,105,108,101]⟩ (by decide +kernel) w_while)
 have HT_let:=hide (fun (W:World) (x:Rp W g len T wd st) => take_no x ⟨#[108,101,116]⟩ (by decide +kernel) w_let)
 have HT_break:=hide (fun (W:World) (x:Rp W g len T wd st) => take_no x ⟨#[98,114,101,97,107]⟩ (by decide +kernel) w_break)
 have HT_continue:=hide (fun (W:World) (x:Rp W g len T wd st) => take_no x ⟨#[99,111,110,116,105,110,117,101]⟩ (by decide +kernel) w_continue)
 have HT_return:=hide (fun (W:World) (x:Rp W g len T wd st) => take_no x ⟨#[114,101,116,117,114,110]⟩ (by decide +kernel) w_return)
 have HTy:=hide (fun (W:World) (x:Rp W g len T wd st) => take_yes x ⟨#[112,114,105,110,116]⟩ (by decide +kernel) hW)
 have HEx:=hide (hex st.next hn1)
 unfold RIs at HEx
 have hwg:(w.heap.size == g) = false:=by simp;omega
 have hwg1:(w.heap.size + 1 == g) = false:=by simp;omega
 clear h e1
 go_enter Tryz.func51,Tryz.ntmps51
 go_wp2_with (first
  | (go_at_call 49;refine Calls.mono (unhide HIf _ ((unhide H).ext ((Ext.alloc w _).trans (Ext.alloc _ _)))) ?_;rintro e w0 ⟨rfl,hw⟩;have RB0:=hide (hw.row ((Ext.alloc _ _).row (Go.heap_alloc_new w _)));have RN0:=hide (hw.row (Go.heap_alloc_new (w.alloc _) _));have G0:=hide ((Gr.of ((Ext.alloc w _).trans (Ext.alloc _ _))).trans (Gr.of (g:=g) hw));have S0:=hide ((unhide H).ext (((Ext.alloc w _).trans (Ext.alloc _ _)).trans hw));clear hw)
  | (have T9:=unhide S0;go_at_call 33;refine Calls.mono (unhide HT_while _ T9) ?_;rintro e w1 ⟨rfl,hs,hw⟩;have RB1:=hide (hw.row (unhide RB0) (by omega));have RN1:=hide (hw.row (unhide RN0) (by simp;omega));have G1:=hide ((unhide G0).trans hw);have S1:=hide hs;clear hw hs T9 S0 RB0 RN0 G0)
  | (have T9:=unhide S1;go_at_call 33;refine Calls.mono (unhide HT_let _ T9) ?_;rintro e w2 ⟨rfl,hs,hw⟩;have RB2:=hide (hw.row (unhide RB1) (by omega));have RN2:=hide (hw.row (unhide RN1) (by simp;omega));have G2:=hide ((unhide G1).trans hw);have S2:=hide hs;clear hw hs T9 S1 RB1 RN1 G1)
  | (have T9:=unhide S2;go_at_call 33;refine Calls.mono (unhide HT_break _ T9) ?_;rintro e w3 ⟨rfl,hs,hw⟩;have RB3:=hide (hw.row (unhide RB2) (by omega));have RN3:=hide (hw.row (unhide RN2) (by simp;omega));have G3:=hide ((unhide G2).trans hw);have S3:=hide hs;clear hw hs T9 S2 RB2 RN2 G2)
  | (have T9:=unhide S3;go_at_call 33;refine Calls.mono (unhide HT_continue _ T9) ?_;rintro e w4 ⟨rfl,hs,hw⟩;have RB4:=hide (hw.row (unhide RB3) (by omega));have RN4:=hide (hw.row (unhide RN3) (by simp;omega));have G4:=hide ((unhide G3).trans hw);have S4:=hide hs;clear hw hs T9 S3 RB3 RN3 G3)
  | (have T9:=unhide S4;go_at_call 33;refine Calls.mono (unhide HT_return _ T9) ?_;rintro e w5 ⟨rfl,hs,hw⟩;have RB5:=hide (hw.row (unhide RB4) (by omega));have RN5:=hide (hw.row (unhide RN4) (by simp;omega));have G5:=hide ((unhide G4).trans hw);have S5:=hide hs;clear hw hs T9 S4 RB4 RN4 G4)
  | (have T9:=unhide S5;go_at_call 33;refine Calls.mono (unhide HTy _ T9) ?_;rintro e wy ⟨rfl,hs,hw⟩;have RBy:=hide (hw.row (unhide RB5) (by omega));have RNy:Hd (wy.heap[w.heap.size + 1]? = some (nodO 0 0 emptyB 0 (.slice none 0 0))):=(by have h:=hw.row (unhide RN5) (by simp;omega);rw [size_alloc] at h;exact h);have Gy:=hide ((unhide G5).trans hw);have hyy:w.heap.size + 1 < wy.heap.size:=(Array.getElem?_eq_some_iff.1 (unhide RNy)).1;have Sy:=hide hs;clear hw hs T9 S5 RB5 RN5 G5)
  | (have T9:=unhide Sy;go_at_call 64;refine Calls.mono (unhide HEx _ T9) ?_;rintro e w5 ⟨v,p5,rfl,hr,hp,hs,hw⟩;obtain ⟨k2,o2,s2,n2,l2⟩:=p5;rw [RepN] at hr;obtain ⟨a2,cap2,rfl,hcap2,hl3⟩:=hr;have RB5:=hide (hw.row (unhide RBy) (by omega));have RN5:=hide (hw.row (unhide RNy) (by omega));have G5:=hide ((unhide Gy).trans hw);have S5:=hide hs;have P5:=hide hp;have L5:=hide hl3;have h55:w.heap.size + 1 < w5.heap.size:=(Array.getElem?_eq_some_iff.1 (unhide RN5)).1;have hy5:wy.heap.size ≤ w5.heap.size:=hw.size;have d0:=rowC (unhide RN5) 0 rfl;have d1:=rowC (unhide RN5) 1 rfl;have d2:=rowC (unhide RN5) 2 rfl;have d3:=rowC (unhide RN5) 3 rfl;have d4:=rowC (unhide RN5) 4 rfl;have dz:=rowF (unhide RN5);clear hw hs hl3 hp T9 Sy RBy RNy Gy))
 obtain ⟨WZ,hWZ⟩:∃ WZ,WZ = (set5 w5 (w.heap.size + 1) 8 0 emptyB 0 (.slice (some ⟨w5.heap.size,0,none⟩) 1 1)).alloc (nodO k2 o2 s2 n2 (.slice a2 l2.length cap2)):=⟨_,rfl⟩
 have hg5:g < w5.heap.size:=(unhide S5).lt
 have hzz:=set5_size w5 (w.heap.size + 1) 8 0 emptyB 0 (.slice (some ⟨w5.heap.size,0,none⟩) 1 1)
 have hSZ:Rp WZ g len T wd (ex st.next).2:=by rw [hWZ];exact ((unhide S5).set5 (by omega) _ _ _ _ _).ext (Ext.alloc _ _)
 have hNZ:WZ.heap[w.heap.size + 1]? = some (nodO 8 0 emptyB 0 (.slice (some ⟨w5.heap.size,0,none⟩) 1 1)):=by rw [hWZ];exact (Ext.alloc _ _).row (set5_row (unhide RN5) _ _ _ _ _)
 have hBZ:WZ.heap[w.heap.size]? = some (nodO 0 0 emptyB 0 (.slice none 0 0)):=by rw [hWZ];exact (Ext.alloc _ _).row ((set5_block (by omega) _ _ _ _ _).trans (unhide RB5))
 have hKZ:WZ.heap[w5.heap.size]? = some (nodO k2 o2 s2 n2 (.slice a2 l2.length cap2)):=by
  have h:=Go.heap_alloc_new (set5 w5 (w.heap.size + 1) 8 0 emptyB 0 (.slice (some ⟨w5.heap.size,0,none⟩) 1 1)) (nodO k2 o2 s2 n2 (.slice a2 l2.length cap2))
  rw [hzz] at h
  rw [hWZ];exact h
 have hGZ:Gr g w WZ:=by rw [hWZ];exact ((unhide G5).set5 (by omega) _ _ _ _ _).alloc _
 have hzZ:WZ.heap.size = w5.heap.size + 1:=by rw [hWZ,size_alloc,hzz]
 have hLZ:RepNL WZ (fun b => w.heap.size + 1 < b ∧ b < WZ.heap.size) [⟨k2,o2,s2,n2,l2⟩] (some ⟨w5.heap.size,0,none⟩):=by
  refine one_repR hKZ ⟨by omega,by omega⟩ hcap2 (RepNL.to (fun b hb => ?_) _ _ (unhide L5))
  have h1:=hb.1
  have h2:=hb.2
  exact ⟨⟨by omega,by omega⟩,by rw [hWZ];exact ((Ext.alloc _ _).block b (by omega)).trans (set5_block (by omega) _ _ _ _ _)⟩
 have HG:=hide (fun (W:World) (x:Rp W g len T wd (ex st.next).2) => want_s x ⟨#[59]⟩ (by decide +kernel))
 refine gen_world (F:=fun W => Calls _ _ _ W _) ?_
 intro W9 hW9
 obtain rfl:W9 = WZ:=hW9.trans hWZ.symm
 have HKS:=hide (psign_kp hSZ.nv len ⟨#[59]⟩)
 have SZ:=hide hSZ
 have NZ:=hide hNZ
 have BZ:=hide hBZ
 have GZ:=hide hGZ
 have LZ:=hide hLZ
 clear hW9 hWZ hSZ hNZ hBZ hGZ hKZ hLZ RB5 RN5 G5 S5 L5 d0 d1 d2 d3 d4 dz
 go_wp2_with (have T9:=unhide SZ;go_at_call 31;refine Calls.mono (unhide HG _ T9) ?_;rintro e w6 ⟨rfl,hs,hw⟩;have RE:=hide (hw.row (unhide BZ) (by omega));have RQ:=hide (hw.row (unhide NZ) (by omega));have r0:=rowC (unhide RE) 0 rfl;have r1:=rowC (unhide RE) 1 rfl;have r2:=rowC (unhide RE) 2 rfl;have r3:=rowC (unhide RE) 3 rfl;have r4:=rowC (unhide RE) 4 rfl;have rz:=rowF (unhide RE);have q0:=rowC (unhide RQ) 0 rfl;have q1:=rowC (unhide RQ) 1 rfl;have q2:=rowC (unhide RQ) 2 rfl;have q3:=rowC (unhide RQ) 3 rfl;have q4:=rowC (unhide RQ) 4 rfl;have qz:=rowF (unhide RQ);have S6:=hide hs;have G6:=hide ((unhide GZ).trans hw);have G96:=hide hw;clear hw hs T9)
 have hrowF:(set5 w6 w.heap.size 8 0 emptyB 0 (.slice (some ⟨w5.heap.size,0,none⟩) 1 1)).heap[w.heap.size]? = some (nodO 8 0 emptyB 0 (.slice (some ⟨w5.heap.size,0,none⟩) 1 1)):=set5_row (unhide RE) _ _ _ _ _
 exact bodyPost_ret (v:=nodV 8 0 emptyB 0 (.slice (some ⟨w5.heap.size,0,none⟩) 1 1)) (res_nodR Tryz.results51 _ _ w.heap.size _ _ _ _ _ rfl hrowF) rfl (rnode_end (l:=[⟨k2,o2,s2,n2,l2⟩]) hg (unhide S6) (unhide G6) (Nat.le_refl _) (RepNL.to (fun b hb => by have h1:=hb.1;have h2:=hb.2;have h3:=(unhide G96).size;exact ⟨⟨by omega,by omega⟩,(unhide G96).block b h2 (by omega)⟩) _ _ (unhide LZ)) (fun e => by rw [unhide P5 ((unhide HKS).ok e).1]))
end Go.Proofs.YtgkdmgndebifiaaGreatDoor
