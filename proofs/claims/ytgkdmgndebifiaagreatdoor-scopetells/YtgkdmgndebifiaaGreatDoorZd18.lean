/- A reader of statements that has erred stays as it is;one that goes on leaves open what was open. · Indexes behind an expression,from left to right. · Ops of one place,ahead of their operand. · What operators of the level 5 join,from left to right. -/
import Derived.Test.YtgkdmgndebifiaaGreatDoorZd7
import Derived.Test.YtgkdmgndebifiaaGreatDoorZd6
set_option linter.unusedSimpArgs false
set_option linter.unusedVariables false
set_option maxRecDepth 10000
namespace Go.Proofs.YtgkdmgndebifiaaGreatDoor
open Go.RowKit
theorem ofEx_kp {len:Nat} {ex:Rdr} (h:GoodR ex) (k:Int):GoodR (ofExP len ex k):=fun st n => (h st n).trans (psign_kp ((h st n).nv n) len _)
theorem plain_kp (len:Nat) (k:Int):GoodR (plainP len k):=fun st n => psign_kp n len _
theorem answer_kp {len:Nat} {ex:Rdr} (h:GoodR ex):GoodR (answerP len ex):=by
 intro st n
 unfold answerP
 split
 ·exact plain_kp len 7 st n
 ·exact ofEx_kp h 7 st n
theorem named_kp {len:Nat} {ex:Rdr} (h:GoodR ex) (k:Int):GoodR (namedP len ex k):=by
 intro st n
 have h1:=name_kp n len
 have n1:=h1.nv n
 have h2:=psign_kp n1 len ⟨#[61]⟩
 exact h1.trans (h2.trans (ofEx_kp h k _ (h2.nv n1)))
theorem blkLoop_kp {sm:Rdr} (h:GoodR sm):∀ (f:Nat) (acc:List PN) (st:PS),Nv st → Kp st (blkLoop sm f acc st).2
 | 0,acc,st,n => Kp.refl n
 | f + 1,acc,st,n => by
  rw [blkLoop]
  split
  ·exact Kp.refl n
  ·exact (h st n).trans (blkLoop_kp h f _ _ ((h st n).nv n))
theorem blk_kp {len:Nat} {sm:Rdr} (h:GoodR sm) (f:Nat):GoodR (blkP len sm f):=by
 intro st n
 unfold blkP
 split
 ·refine br_kp (len:=len) n ?_
  have n1:=enter_nv n len
  have h1:=next_kp n1
  have n2:=h1.nv n1
  have h2:=blkLoop_kp h f [] _ n2
  exact h1.trans (h2.trans (psign_kp (h2.nv n2) len _))
 ·exact fail_kp _ _ (by decide)
theorem cho_kp {ex bl ot:Rdr} (h:GoodR ex) (hb:GoodR bl) (ho:GoodR ot):GoodR (choP ex bl ot):=by
 intro st n
 have h1:=h st n
 have n1:=h1.nv n
 have h2:=hb _ n1
 have n2:=h2.nv n1
 unfold choP
 split
 ·have h3:=next_kp n2
  exact h1.trans (h2.trans (h3.trans (ho _ (h3.nv n2))))
 ·exact h1.trans h2
theorem oth_kp {ch bl:Rdr} (h:GoodR ch) (hb:GoodR bl):GoodR (othP ch bl):=by
 intro st n
 unfold othP
 split
 ·exact (next_kp n).trans (h _ ((next_kp n).nv n))
 ·exact hb st n
theorem whi_kp {ex bl:Rdr} (h:GoodR ex) (hb:GoodR bl):GoodR (whiP ex bl):=fun st n => (h st n).trans (hb _ ((h st n).nv n))
theorem stm_kp {len:Nat} {ex bl ch:Rdr} (h:GoodR ex) (hb:GoodR bl) (hc:GoodR ch):GoodR (stmP len ex bl ch):=by
 intro st n
 have k:=next_kp n
 have m:=k.nv n
 unfold stmP
 split
 ·exact k.trans (named_kp h 1 _ m)
 split
 ·exact named_kp h 2 _ n
 split
 ·exact k.trans (hc _ m)
 split
 ·exact k.trans (whi_kp h hb _ m)
 split
 ·exact k.trans (plain_kp len 5 _ m)
 split
 ·exact k.trans (plain_kp len 6 _ m)
 split
 ·exact k.trans (answer_kp h _ m)
 split
 ·exact k.trans (ofEx_kp h 8 _ m)
 ·exact ofEx_kp h 9 _ n
theorem sts_kp (len fe:Nat):∀ f,GoodR (stsP len fe f).1 ∧ GoodR (stsP len fe f).2.1 ∧ GoodR (stsP len fe f).2.2
 | 0 => ⟨fun _ n => Kp.refl n,fun _ n => Kp.refl n,fun _ n => Kp.refl n⟩
 | f + 1 => by
  obtain ⟨h1,h2,h3⟩:=sts_kp len fe f
  rw [stsP]
  exact ⟨stm_kp (ex_kp len fe) h2 h3,blk_kp h1 _,cho_kp (ex_kp len fe) (blk_kp h1 _) (oth_kp h3 h2)⟩
theorem parLoop_kp (len:Nat):∀ (f:Nat) (acc:List ByteArray) (st:PS),Nv st → Kp st (parLoop len f acc st).2
 | 0,acc,st,n => Kp.refl n
 | f + 1,acc,st,n => by
  rw [parLoop]
  split
  ·have h1:=next_kp n
   have n1:=h1.nv n
   have h2:=name_kp n1 len
   exact h1.trans (h2.trans (parLoop_kp len f _ _ (h2.nv n1)))
  ·exact Kp.refl n
theorem par_kp (len f:Nat) (st:PS) (n:Nv st):Kp st (parP len f st).2:=by
 unfold parP
 split
 ·exact next_kp n
 ·have h1:=name_kp n len
  have n1:=h1.nv n
  have h2:=parLoop_kp len f [(st.name len).1] _ n1
  exact h1.trans (h2.trans (psign_kp (h2.nv n1) len _))
theorem funA_kp (len:Nat) (st:PS) (n:Nv st):Kp st (funA len st).2:=(pword_kp n len _).trans (name_kp ((pword_kp n len _).nv n) len)
theorem funB_kp (len f:Nat) (st:PS) (n:Nv st):Kp st (funB len f st).2:=by
 have h1:=funA_kp len st n
 have n1:=h1.nv n
 have h2:=psign_kp n1 len ⟨#[40]⟩
 exact h1.trans (h2.trans (par_kp len f _ (h2.nv n1)))
theorem fun_kp (len:Nat) {bl:Rdr} (hb:GoodR bl) (f:Nat) (st:PS) (n:Nv st):Kp st (funP len bl f st).2:=(funB_kp len f st n).trans (hb _ ((funB_kp len f st n).nv n))
theorem funs_kp (len:Nat) {bl:Rdr} (hb:GoodR bl) (f:Nat):∀ (j:Nat) (acc:List PFn) (st:PS),Nv st → Kp st (funsP len bl f j acc st).2
 | 0,acc,st,n => Kp.refl n
 | j + 1,acc,st,n => by
  rw [funsP]
  split
  ·exact Kp.refl n
  ·exact (fun_kp len hb f st n).trans (funs_kp len hb f j _ _ ((fun_kp len hb f st n).nv n))
end Go.Proofs.YtgkdmgndebifiaaGreatDoor
namespace Go.Proofs.YtgkdmgndebifiaaGreatDoor
open Go.RowKit
theorem oper_gr (len g:Nat) (st:PS) (lv:Int) (w:World) (hR:Rs w g len st) :
  Calls Tryz.prog 126 #[.pointer (some ⟨g,0,none⟩),.int .i64 lv] w fun e w' => e = .returned (.tuple #[oprV ((st.oper lv).getD oprZ),.bool (st.oper lv).isSome]) ∧ St w' g len st ∧ Gr g w w' :=
 (oper_any len g st lv w hR.op hR.st).mono fun e w' ⟨he,hw⟩ => ⟨he,hR.st.ext hw,Gr.of hw⟩
set_option maxHeartbeats 8000000 in
theorem idx_any (len g:Nat) (ex:Rdr) (f:Nat) (st:PS) (w:World) (hR:Rs w g len st) (hf:st.ts.length < f) (hsh:∀ s,(ex s).2.ts.length ≤ s.ts.length)
  (hsg:∀ W,Gr g w W → Rs W g len st → Calls Tryz.prog 147 #[.pointer (some ⟨g,0,none⟩)] W (Tree g len W (sglP len ex f st))) (hsl:(sglP len ex f st).2.ts.length ≤ st.ts.length)
  (hbr:∀ s:PS,s.ts.length ≤ st.ts.length → s.ts ≠ [] → ∀ W,Gr g w W → Rs W g len s → Calls Tryz.prog 148 #[.pointer (some ⟨g,0,none⟩),.string ⟨#[93]⟩] W (Tree g len W (inBrP len ex ⟨#[93]⟩ s))) :
  Calls Tryz.prog 141 #[.pointer (some ⟨g,0,none⟩)] w (Tree g len w (idxP len ex f st)):=by
 have hg:g < w.heap.size:=hR.st.lt
 unfold idxP
 rw [ix_loopX]
 have HX0:=hide hsg
 have HSH:=hide (fun s (h:(s.oper 7).isSome = true) => inBr_lt (st:=s) (len:=len) (ex:=ex) ⟨#[93]⟩ hsh (oper_some_ne h))
 have HX:=hide hbr
 have hl0:=hsl
 have HR:=hide hR
 clear hR hbr hsh hsg hsl
 generalize inBrP len ex ⟨#[93]⟩ = sb at *
 generalize sglP len ex f st = q at *
 obtain ⟨⟨k,o,s,n,l⟩,st1⟩:=q
 obtain ⟨R,hRR⟩:∃ R,R = loopX sb f ⟨k,o,s,n,l⟩ st1:=⟨_,rfl⟩
 show Calls _ _ _ _ (Tree g len w (loopX sb f ⟨k,o,s,n,l⟩ st1))
 rw [← hRR]
 have HRR:=hide hRR
 clear hRR
 have HT:=hide (fun W (x:Rs W g len st1) => oper_gr len g st1 7 W x)
 obtain ⟨f,rfl⟩:∃ i,f = i + 1:=⟨f - 1,by omega⟩
 go_enter Tryz.func141,Tryz.ntmps141
 go_wp2_with (first
  | (go_at_call 147;refine Calls.mono (unhide HX0 _ (Gr.of (Ext.alloc _ _)) ((unhide HR).alloc _)) ?_;rintro e w1 ⟨v,rfl,hr,hs,hw⟩;rw [RepN] at hr;obtain ⟨a,cap,rfl,hcap,hl⟩:=hr;have RB:=hide (hw.row (Go.heap_alloc_new w _) (by omega));have S1:=hide hs;have L1:=hide hl;have X1:=hide ((Gr.of (Ext.alloc _ _)).trans hw);have hlt1:w.heap.size < w1.heap.size:=(Array.getElem?_eq_some_iff.1 (unhide RB)).1;clear hw hs hl)
  | (go_at_call 126;refine Calls.mono (unhide HT _ (((unhide HR).go (unhide X1) (unhide S1)).alloc _)) ?_;rintro e w2 ⟨rfl,hs,hw⟩;have RB2:=hide (hw.row ((Ext.alloc _ _).row (unhide RB)) (by omega));have RC:=hide (hw.row (Go.heap_alloc_new w1 _) (by omega));have S2:=hide hs;have X2:=hide ((Gr.of (Ext.alloc _ _)).trans hw);have hlt2:w1.heap.size < w2.heap.size:=(Array.getElem?_eq_some_iff.1 (unhide RC)).1;clear hw hs))
 have eRR:R = if (st1.oper 7).isSome then loopX sb f (((st1.oper 7).getD oprZ).node [⟨k,o,s,n,l⟩,(sb st1).1]) (sb st1).2 else (⟨k,o,s,n,l⟩,st1):=(unhide HRR).trans (loopX_eq _ _ _ _)
 have hlt0:=unhide HSH st1
 have HBB:∃ b,b = (st1.oper 7).isSome ∧ Hd (b = true → (st1.oper 7).isSome = true):=⟨_,rfl,fun h => h⟩
 obtain ⟨bb,hbb,HBB⟩:=HBB
 have HBB2:=hide HBB
 clear HBB
 rw [← hbb] at eRR hlt0
 simp only [← hbb]
 clear hbb
 generalize (st1.oper 7).getD oprZ = z at *
 have LI:Hd (IxI sb g len w (w2.alloc (.cells #[.string z.s,.int .i64 z.lv,.int .i64 z.k,.int .i64 z.o] 149)) R w1.heap.size w2.heap.size bb k o s n l a cap z st1 f):=by
  have G2:Gr g w w2:=(unhide X1).trans (unhide X2)
  refine ⟨eRR,fun h => by have:=hlt0 h;omega,(Ext.alloc _ _).row (unhide RB2),(Ext.alloc _ _).row (unhide RC),Go.heap_alloc_new w2 _,hcap,?_,hlt1,hlt2,((unhide HR).go G2 (unhide S2)).alloc _,G2.alloc _⟩
  refine RepNL.to (fun b hb => ⟨⟨?fa,?fb,?fc,?fd⟩,?fe⟩) _ _ (unhide L1)
  case fa => have:=hb.1;rw [size_alloc] at this;omega
  case fb => have:=hb.2;rw [size_alloc];omega
  case fc => have:=hb.2;omega
  case fd => have:=hb.2;omega
  case fe => rw [(Ext.alloc w2 _).block b (by have:=hb.2;omega)];exact (unhide X2).block b hb.2 (by have:=hb.1;rw [size_alloc] at this;omega)
 clear eRR hlt0 HT HRR HX0 RB RB2 RC S1 S2 L1 X1 X2 hcap
 go_loopw [4,5] (fun t4 t5 wr => ∃ (b4:Nat) (bb:Bool) (k o:Int) (s:ByteArray) (n:Int) (l:List PN) (a:Option Addr) (cap:Nat) (z:Opr) (stc:PS) (j:Nat),t4 = .pointer (some ⟨b4,0,none⟩) ∧ t5 = .bool bb ∧ Hd (IxI sb g len w wr R w1.heap.size b4 bb k o s n l a cap z stc j) ∧ stc.ts.length ≤ st.ts.length ∧ Hd (bb = true → (stc.oper 7).isSome = true)) (fun _ t5 wr => 2 * leftN g wr + (match t5 with | .bool true => 1 | _ => 0))
 case atStart => exact ⟨_,bb,_,_,_,_,_,_,_,_,st1,f,rfl,rfl,LI,by omega,unhide HBB2⟩
 case round =>
  clear LI
  obtain ⟨b4,bb,k,o,s,n,l,a,cap,z,stc,j,rfl,rfl,hI,hle,hbx⟩:=hrel
  have hJ:=unhide hI
  have p0:=rowC hJ.r3 0 rfl
  have p1:=rowC hJ.r3 1 rfl
  have p2:=rowC hJ.r3 2 rfl
  have p3:=rowC hJ.r3 3 rfl
  have p4:=rowC hJ.r3 4 rfl
  have h3:=hJ.h3
  have h34:=hJ.h34
  cases bb
  ·have hRR:R = (⟨k,o,s,n,l⟩,stc):=hJ.eq
   have r0:=rowC hJ.r2 0 rfl
   have r1:=rowC hJ.r2 1 rfl
   have r2:=rowC hJ.r2 2 rfl
   have r3:=rowC hJ.r2 3 rfl
   have r4:=rowC hJ.r2 4 rfl
   have rz:=rowF hJ.r2
   clear hJ
   go_wp2
   rw [hRR]
   exact bodyPost_ret (v:=nodV k o s n (.slice a l.length cap)) (by simp [results,Tryz.results141,go_sem,r0,r1,r2,r3,r4]) rfl (tree_end hg (unhide hI).rs.st (unhide hI).gr (unhide hI).hc (RepNL.to (fun b hb => ⟨⟨hb.1,hb.2.1⟩,rfl⟩) _ _ (unhide hI).rep) (k:=k) (o:=o) (n:=n) (s:=s))
  ·have q0:=rowC hJ.r4 0 rfl
   have q1:=rowC hJ.r4 1 rfl
   have q2:=rowC hJ.r4 2 rfl
   have q3:=rowC hJ.r4 3 rfl
   have hRR:R = loopX sb j (z.node [⟨k,o,s,n,l⟩,(sb stc).1]) (sb stc).2:=hJ.eq
   have hfu:=hJ.fuel rfl
   have hsome:=unhide hbx rfl
   have HXs:=hide (unhide HX stc hle (oper_some_ne hsome))
   have hl2:=unhide HSH stc hsome
   have hb4:b4 < wr.heap.size:=(Array.getElem?_eq_some_iff.1 hJ.r4).1
   have HRR:=hide hRR
   generalize sb stc = q at HXs HRR hl2 hfu
   obtain ⟨⟨k2,o2,s2,n2,l2⟩,st2⟩:=q
   clear hJ hRR
   have D0:Hd (Gr g w wr.drew):=(unhide hI).gr.drew
   have D1:Hd (Rs wr.drew g len stc):=(unhide hI).rs.ext (Ext.drew (Ext.refl _))
   go_wp2_with fail
   go_region_law (first
    | (refine step_call_two rfl 148 (.tmp 21) (.const (.string ⟨#[93]⟩)) 77 9 rfl _ _ (by simp [Act.eval,Act.put]) (by simp [Act.eval,Act.put]) (enterInBr _ _ _) (Calls.mono (unhide HXs _ (unhide D0) (unhide D1)) ?_);rintro e w3 ⟨v,rfl,hr,hs,hw⟩;rw [RepN] at hr;obtain ⟨a2,cap2,rfl,hcap2,hl3⟩:=hr;have RE:=hide (hw.row (unhide hI).r3 (by omega));have RF:=hide (hw.row (unhide hI).r4 (by omega));have p0:=rowC (unhide RE) 0 rfl;have p1:=rowC (unhide RE) 1 rfl;have p2:=rowC (unhide RE) 2 rfl;have p3:=rowC (unhide RE) 3 rfl;have p4:=rowC (unhide RE) 4 rfl;have q0:=rowC (unhide RF) 0 rfl;have q1:=rowC (unhide RF) 1 rfl;have q2:=rowC (unhide RF) 2 rfl;have q3:=rowC (unhide RF) 3 rfl;have S3:=hide hs;have L3:=hide hl3;have X3:=hide hw;have hb43:b4 < w3.heap.size:=Nat.lt_of_lt_of_le hb4 hw.size;clear hw hs hl3;refine ⟨_,rfl,?_⟩)
    | (refine step_call_two rfl 118 (.tmp 19) (.tmp 23) 149 27 rfl _ _ (by simp [Act.eval,Act.put]) (by simp [Act.eval,Act.put]) (enterNode _ _ _) (Calls.mono (node_any z (some ⟨w3.heap.size,0,none⟩) 2 2 _) ?_);rintro e w4 ⟨rfl,hw⟩;have RG:=hide (hw.row ((Ext.alloc _ _).row (unhide RE)));have RH:=hide (hw.row ((Ext.alloc _ _).row (unhide RF)));have RI:=hide (hw.row (Go.heap_alloc_new w3 _));have p0:=rowC (unhide RG) 0 rfl;have p1:=rowC (unhide RG) 1 rfl;have p2:=rowC (unhide RG) 2 rfl;have p3:=rowC (unhide RG) 3 rfl;have p4:=rowC (unhide RG) 4 rfl;have pz:=rowF (unhide RG);have q0:=rowC (unhide RH) 0 rfl;have q1:=rowC (unhide RH) 1 rfl;have q2:=rowC (unhide RH) 2 rfl;have q3:=rowC (unhide RH) 3 rfl;have X4:=hide ((Ext.alloc _ _).trans hw);have hb44:b4 < w4.heap.size:=(Array.getElem?_eq_some_iff.1 (unhide RH)).1;clear hw;refine ⟨_,rfl,?_⟩))
   all_goals
    have LM:=IxM.of (unhide HR) (unhide hI) (unhide HRR) hfu (Gr.drew_of (unhide X3)) (unhide S3) hcap2 (unhide L3) (unhide X4) (unhide RI)
    refine gen_world (F:=fun W5 => Exit.inBlock 1 (Exit.then _ _) Exit.normal _ W5) ?_
    intro W5 hW5
    replace hW5:W5 = set5 w4 w1.heap.size z.k z.o emptyB 0 (.slice (some ⟨w3.heap.size,0,none⟩) 2 2):=hW5
    rw [← hW5] at LM
    have RK:W5.heap[b4]? = some (oprO z):=by rw [hW5,set5_block (by omega)];exact unhide RH
    have q0:=rowC RK 0 rfl
    have q1:=rowC RK 1 rfl
    have q2:=rowC RK 2 rfl
    have q3:=rowC RK 3 rfl
    have hm0:leftN g wr = stc.ts.length:=left_st (unhide hI).rs.st
    have HT:=hide (fun W (x:Rs W g len st2) => oper_gr len g st2 7 W x)
    have hgW:g < W5.heap.size:=LM.rs.st.lt
    have hfj:=LM.fuel
    obtain ⟨j,rfl⟩:∃ i,j = i + 1:=⟨j - 1,by omega⟩
    have M:=hide LM
    have hdec:=hide (unhide HSH st2)
    clear LM hW5 RK RE RF RG RH RI S3 L3 X3 X4 hI
    go_wp2_with (go_at_call 126;refine Calls.mono (unhide HT _ ((unhide M).rs.alloc _)) ?_;rintro e w6 ⟨rfl,hs,hw⟩;have LH:=hide (IxM.head (z:=z) (unhide HR) (unhide M) (unhide hdec) hw hs);have RM:=hw.row (Go.heap_alloc_new W5 _) (by omega);have z0:=rowC RM 0 rfl;have z1:=rowC RM 1 rfl;have z2:=rowC RM 2 rfl;have z3:=rowC RM 3 rfl;have zz:=rowF RM;clear RM hw hs)
    have hm1:=left_st (unhide LH).rs.st
    have HB2:∃ b,b = (st2.oper 7).isSome ∧ Hd (b = true → (st2.oper 7).isSome = true):=⟨_,rfl,fun h => h⟩
    obtain ⟨bb,hbb,HB2⟩:=HB2
    have HB3:=hide HB2
    clear HB2
    rw [← hbb] at LH
    simp only [← hbb]
    clear hbb
    generalize (st2.oper 7).getD oprZ = y at *
    go_roundw
    case rel => exact ⟨_,bb,_,_,_,_,_,_,_,y,st2,j,rfl,rfl,LH,by omega,unhide HB3⟩
    case measure =>
     rw [hm0,hm1]
     cases bb
     ·simp;omega
     ·simp;omega
end Go.Proofs.YtgkdmgndebifiaaGreatDoor
namespace Go.Proofs.YtgkdmgndebifiaaGreatDoor
open Go.RowKit
theorem one_rep {W:World} {F:Nat → Prop} {B:Nat} {t:TypeId} {k o n:Int} {s:ByteArray} {l:List PN} {a:Option Addr} {cap:Nat} (hB:W.heap[B]? = some (.cells #[.int .i64 k,.int .i64 o,.string s,.int .i64 n,.slice a l.length cap] t (0,0)))
  (hF:F B) (h1:l.length ≤ cap) (r1:RepNL W F l a):RepNL W F [⟨k,o,s,n,l⟩] (some ⟨B,0,none⟩):=by
 rw [RepNL]
 exact ⟨B,0,_,_,_,_,_,rfl,hF,by rw [RepN];exact ⟨a,cap,rfl,h1,r1⟩,rowC hB 0 rfl,rowC hB 1 rfl,rowC hB 2 rfl,rowC hB 3 rfl,rowC hB 4 rfl,by simp [RepNL]⟩
set_option maxHeartbeats 8000000 in
theorem sgn_any (len g:Nat) (sg ex:Rdr) (f:Nat) (st:PS) (w:World) (hR:Rs w g len st)
  (hix:st.oper 6 = none → ∀ W,Gr g w W → Rs W g len st → Calls Tryz.prog 141 #[.pointer (some ⟨g,0,none⟩)] W (Tree g len W (idxP len ex f st)))
  (hsg:(st.oper 6).isSome = true → ExIs g len 136 sg (st.enter len).next w) :
  Calls Tryz.prog 136 #[.pointer (some ⟨g,0,none⟩)] w (Tree g len w (sgnP len sg ex f st)):=by
 have hg:g < w.heap.size:=hR.st.lt
 unfold sgnP
 have HT:=hide (fun W (x:Rs W g len st) => oper_gr len g st 6 W x)
 have HR:=hide hR
 cases hq:st.oper 6 with
 | none =>
  rw [hq] at HT
  simp only [Option.getD_none,Option.isSome_none] at HT
  have HX:=hide (hix hq)
  clear hix hsg hR hq
  show Calls _ _ _ _ (Tree g len w (idxP len ex f st))
  generalize idxP len ex f st = q at HX ⊢
  obtain ⟨⟨k,o,s,n,l⟩,st3⟩:=q
  go_enter_defers Tryz.func136,Tryz.ntmps136
  go_wp2_with (first
   | (go_at_call 126;refine Calls.mono (unhide HT _ ((unhide HR).alloc _)) ?_;rintro e w1 ⟨rfl,hs,hw⟩;have RB:=hide (hw.row (Go.heap_alloc_new w _) (by omega));have S1:=hide hs;have X1:=hide ((Gr.of (Ext.alloc _ _)).trans hw);have hlt1:w.heap.size < w1.heap.size:=(Array.getElem?_eq_some_iff.1 (unhide RB)).1;clear hw hs)
   | (go_at_call 141;refine Calls.mono (unhide HX _ ((unhide X1).alloc _) (((unhide HR).go (unhide X1) (unhide S1)).alloc _)) ?_;rintro e w3 ⟨v,rfl,hr,hs,hw⟩;rw [RepN] at hr;obtain ⟨a,cap,rfl,hcap,hl⟩:=hr;have RD:=hide (hw.row ((Ext.alloc _ _).row (unhide RB)) (by omega));have r0:=rowC (unhide RD) 0 rfl;have r1:=rowC (unhide RD) 1 rfl;have r2:=rowC (unhide RD) 2 rfl;have r3:=rowC (unhide RD) 3 rfl;have r4:=rowC (unhide RD) 4 rfl;have rz:=rowF (unhide RD);have S3:=hide hs;have L3:=hide hl;have X3:=hide (((unhide X1).alloc _).trans hw);clear hw hs hl))
  exact ⟨_,res_node rfl _ _ w.heap.size k o s n _ rfl (set5_row (unhide RD) _ _ _ _ _),tree_end hg (unhide S3) (unhide X3) hcap ((unhide L3).gr (Gr.refl g _) (by simp;omega) (by simp;omega)) (k:=k) (o:=o) (n:=n) (s:=s)⟩
 | some z =>
  rw [hq] at HT
  simp only [Option.getD_some,Option.isSome_some] at HT
  have HX:=hide (hsg (by rw [hq];rfl))
  unfold ExIs at HX
  clear hix hsg hR hq
  show Calls _ _ _ _ (Tree g len w (z.node [(sg (st.enter len).next).1],(sg (st.enter len).next).2.leave))
  generalize sg (st.enter len).next = q at HX ⊢
  obtain ⟨⟨k,o,s,n,l⟩,st3⟩:=q
  have HE:=hide (fun W (x:St W g len st) => enter_p len g st W x)
  have HN:=hide (fun W (x:St W g len (st.enter len)) => next_any len g (st.enter len) W x)
  go_enter_defers Tryz.func136,Tryz.ntmps136
  go_wp2_with (first
   | (go_at_call 126;refine Calls.mono (unhide HT _ ((unhide HR).alloc _)) ?_;rintro e w1 ⟨rfl,hs,hw⟩;have RB:=hide (hw.row (Go.heap_alloc_new w _) (by omega));have S1:=hide hs;have X1:=hide ((Gr.of (Ext.alloc _ _)).trans hw);have hlt1:w.heap.size < w1.heap.size:=(Array.getElem?_eq_some_iff.1 (unhide RB)).1;clear hw hs)
   | (go_at_call 87;refine Calls.mono (unhide HE _ ((unhide S1).alloc _)) ?_;rintro e w2 ⟨rfl,hs,hw⟩;have RC:=hide (hw.row ((Ext.alloc _ _).row (unhide RB)) (by omega));have RO:=hide (hw.row (Go.heap_alloc_new w1 _) (by omega));have S2:=hide hs;have X2:=hide (((unhide X1).alloc _).trans hw);clear hw hs)
   | (go_at_call 84;refine Calls.mono (unhide HN _ (unhide S2)) ?_;rintro e w3 ⟨rfl,hs,hw⟩;have RD:=hide (hw.row (unhide RC) (by omega));have RP:=hide (hw.row (unhide RO) (by omega));have q0:=rowC (unhide RP) 0 rfl;have q1:=rowC (unhide RP) 1 rfl;have q2:=rowC (unhide RP) 2 rfl;have q3:=rowC (unhide RP) 3 rfl;have S3:=hide hs;have X3:=hide ((unhide X2).trans hw);have hlt3:w1.heap.size < w3.heap.size:=(Array.getElem?_eq_some_iff.1 (unhide RP)).1;clear hw hs))
  have D0:Hd (Gr g w w3.drew):=(unhide X3).drew
  have D1:Hd (Rs w3.drew g len (st.enter len).next):=((unhide HR).go (unhide X3) (unhide S3)).ext (Ext.drew (Ext.refl _))
  first | skip;go_region_law (first
   | (refine step_call_one rfl 136 (.tmp 20) 77 rfl _ (by simp [Act.eval,Act.put]) (enterSigned _ _) (Calls.mono (unhide HX _ (unhide D0) (unhide D1)) ?_);rintro e w4 ⟨v,rfl,hr,hs,hw⟩;rw [RepN] at hr;obtain ⟨a,cap,rfl,hcap,hl⟩:=hr;have RE:=hide (hw.row (unhide RD) (by omega));have RQ:=hide (hw.row (unhide RP) (by omega));have q0:=rowC (unhide RQ) 0 rfl;have q1:=rowC (unhide RQ) 1 rfl;have q2:=rowC (unhide RQ) 2 rfl;have q3:=rowC (unhide RQ) 3 rfl;have r0:=rowC (unhide RE) 0 rfl;have r1:=rowC (unhide RE) 1 rfl;have r2:=rowC (unhide RE) 2 rfl;have r3:=rowC (unhide RE) 3 rfl;have r4:=rowC (unhide RE) 4 rfl;have S4:=hide hs;have L4:=hide hl;have X4:=hide hw;have hb14:w1.heap.size < w4.heap.size:=Nat.lt_of_lt_of_le hlt3 hw.size;have hb04:w.heap.size < w4.heap.size:=Nat.lt_trans hlt1 hb14;clear hw hs hl;refine ⟨_,rfl,?_⟩)
   | (refine step_call_two rfl 118 (.tmp 19) (.tmp 22) 149 27 rfl _ _ (by simp [Act.eval,Act.put]) (by simp [Act.eval,Act.put]) (enterNode _ _ _) (Calls.mono (node_any z (some ⟨w4.heap.size,0,none⟩) 1 1 _) ?_);rintro e w5 ⟨rfl,hw⟩;have RG:=hide (hw.row ((Ext.alloc _ _).row (unhide RE)));have RI:=hide (hw.row (Go.heap_alloc_new w4 _));have r0:=rowC (unhide RG) 0 rfl;have r1:=rowC (unhide RG) 1 rfl;have r2:=rowC (unhide RG) 2 rfl;have r3:=rowC (unhide RG) 3 rfl;have r4:=rowC (unhide RG) 4 rfl;have rz:=rowF (unhide RG);have X5:=hide ((Ext.alloc _ _).trans hw);have hb15:w1.heap.size < w5.heap.size:=Nat.lt_of_lt_of_le hb14 (unhide X5).size;clear hw;refine ⟨_,rfl,?_⟩)) | fail
  all_goals
   have G5:Gr g w w5:=((unhide D0).trans (unhide X4)).trans (Gr.of (unhide X5))
   have hsz:=(unhide X4).size
   have hlt5:w4.heap.size < w5.heap.size:=(Array.getElem?_eq_some_iff.1 (unhide RI)).1
   have L5:RepNL w5 (fun b => w.heap.size < b ∧ b < w5.heap.size) l a:=RepNL.to (fun b hb => ⟨⟨by have h1:w3.heap.size ≤ b:=hb.1;omega,Nat.lt_of_lt_of_le hb.2 (unhide X5).size⟩,(unhide X5).block b hb.2⟩) _ _ (unhide L4)
   have T5:=tree_end (l:=[⟨k,o,s,n,l⟩]) hg ((unhide S4).ext (unhide X5)) G5 (Nat.le_refl 1) (one_rep (F:=fun b => w.heap.size < b ∧ b < w5.heap.size) (unhide RI) ⟨by have h1:w3.heap.size ≤ w4.heap.size:=hsz;omega,hlt5⟩ hcap L5) (k:=z.k) (o:=z.o) (n:=0) (s:=emptyB)
   go_wp2_with fail
   refine leaves_cons (f:=88) (args:=#[.pointer (some ⟨g,0,none⟩)]) (by simp) (by simp [go_sem]) ?_
   refine (leave_p len g _ .returning _ (((unhide S4).ext (unhide X5)).set5 hg _ _ _ _ _)).mono ?_
   rintro e u' w6 ⟨rfl,rfl,hs,hw⟩
   exact ⟨_,res_node rfl _ _ w.heap.size z.k z.o emptyB 0 _ rfl (hw.row (set5_row (unhide RG) _ _ _ _ _) (by omega)),T5.gr hg hw hs⟩
end Go.Proofs.YtgkdmgndebifiaaGreatDoor
namespace Go.Proofs.YtgkdmgndebifiaaGreatDoor
open Go.RowKit
set_option maxHeartbeats 8000000 in
theorem lev5_any (len g:Nat) (sb:Rdr) (f:Nat) (st:PS) (w:World) (hR:Rs w g len st) (hf:st.ts.length < f) (hsh:∀ s,(sb s).2.ts.length ≤ s.ts.length)
  (hsb:∀ s:PS,s.ts.length ≤ st.ts.length → ExIs g len 136 sb s w) :
  Calls Tryz.prog 134 #[.pointer (some ⟨g,0,none⟩)] w (Tree g len w (levP 5 sb f st)):=by
 have hg:g < w.heap.size:=hR.st.lt
 unfold levP
 have HX0:=hide (hsb st (Nat.le_refl _))
 have HX:=hide hsb
 have HSH:=hide hsh
 have hl0:=hsh st
 have HR:=hide hR
 obtain ⟨R,hRR⟩:∃ R,R = loopP 5 sb f (sb st).1 (sb st).2:=⟨_,rfl⟩
 rw [← hRR]
 have HRR:=hide hRR
 clear hR hsb hsh hRR
 unfold ExIs at HX0
 generalize sb st = q at HX0 HRR hl0
 obtain ⟨⟨k,o,s,n,l⟩,st1⟩:=q
 have HT:=hide (fun W (x:Rs W g len st1) => takeOp_any len g st1 5 W x.op x.st)
 obtain ⟨f,rfl⟩:∃ i,f = i + 1:=⟨f - 1,by omega⟩
 go_enter Tryz.func134,Tryz.ntmps134
 go_wp2_with (first
  | (go_at_call 136;refine Calls.mono (unhide HX0 _ (Gr.of (Ext.alloc _ _)) ((unhide HR).alloc _)) ?_;rintro e w1 ⟨v,rfl,hr,hs,hw⟩;rw [RepN] at hr;obtain ⟨a,cap,rfl,hcap,hl⟩:=hr;have RB:=hide (hw.row (Go.heap_alloc_new w _) (by omega));have S1:=hide hs;have L1:=hide hl;have X1:=hide ((Gr.of (Ext.alloc _ _)).trans hw);have hlt1:w.heap.size < w1.heap.size:=(Array.getElem?_eq_some_iff.1 (unhide RB)).1;clear hw hs hl)
  | (go_at_call 117;refine Calls.mono (unhide HT _ (((unhide HR).go (unhide X1) (unhide S1)).alloc _)) ?_;rintro e w2 ⟨rfl,hs,hw⟩;have RB2:=hide (hw.row ((Ext.alloc _ _).row (unhide RB)) (by omega));have RC:=hide (hw.row (Go.heap_alloc_new w1 _) (by omega));have S2:=hide hs;have X2:=hide ((Gr.of (Ext.alloc _ _)).trans hw);have hlt2:w1.heap.size < w2.heap.size:=(Array.getElem?_eq_some_iff.1 (unhide RC)).1;clear hw hs))
 have eRR:R = if (st1.takeO 5).1.isSome then loopP 5 sb f (((st1.takeO 5).1.getD oprZ).node [⟨k,o,s,n,l⟩,(sb (st1.takeO 5).2).1]) (sb (st1.takeO 5).2).2 else (⟨k,o,s,n,l⟩,(st1.takeO 5).2):=(unhide HRR).trans (loop_eq _ _ _ _ _)
 have hle1:=takeO_le st1 5
 have hlt0:=takeO_lt (st:=st1) (lv:=5)
 generalize (st1.takeO 5).1.isSome = bb at *
 generalize (st1.takeO 5).1.getD oprZ = z at *
 generalize (st1.takeO 5).2 = stc at *
 have LI:Hd (LvI 5 sb g len w (w2.alloc (.cells #[.string z.s,.int .i64 z.lv,.int .i64 z.k,.int .i64 z.o] 149)) R w1.heap.size w2.heap.size bb k o s n l a cap z stc f):=by
  have G2:Gr g w w2:=(unhide X1).trans (unhide X2)
  refine ⟨eRR,fun h => by have:=hlt0 h;omega,(Ext.alloc _ _).row (unhide RB2),(Ext.alloc _ _).row (unhide RC),Go.heap_alloc_new w2 _,hcap,?_,hlt1,hlt2,((unhide HR).go G2 (unhide S2)).alloc _,G2.alloc _⟩
  refine RepNL.to (fun b hb => ⟨⟨?fa,?fb,?fc,?fd⟩,?fe⟩) _ _ (unhide L1)
  case fa => have:=hb.1;rw [size_alloc] at this;omega
  case fb => have:=hb.2;rw [size_alloc];omega
  case fc => have:=hb.2;omega
  case fd => have:=hb.2;omega
  case fe => rw [(Ext.alloc w2 _).block b (by have:=hb.2;omega)];exact (unhide X2).block b hb.2 (by have:=hb.1;rw [size_alloc] at this;omega)
 clear eRR hlt0 HT HRR HX0 RB RB2 RC S1 S2 L1 X1 X2 hcap
 go_loopw [4,5] (fun t4 t5 wr => ∃ (b4:Nat) (bb:Bool) (k o:Int) (s:ByteArray) (n:Int) (l:List PN) (a:Option Addr) (cap:Nat) (z:Opr) (stc:PS) (j:Nat),t4 = .pointer (some ⟨b4,0,none⟩) ∧ t5 = .bool bb ∧ Hd (LvI 5 sb g len w wr R w1.heap.size b4 bb k o s n l a cap z stc j) ∧ stc.ts.length ≤ st.ts.length) (fun _ t5 wr => 2 * leftN g wr + (match t5 with | .bool true => 1 | _ => 0))
 case atStart => exact ⟨_,bb,_,_,_,_,_,_,_,_,stc,f,rfl,rfl,LI,by omega⟩
 case round =>
  clear LI
  obtain ⟨b4,bb,k,o,s,n,l,a,cap,z,stc,j,rfl,rfl,hI,hle⟩:=hrel
  have hJ:=unhide hI
  have p0:=rowC hJ.r3 0 rfl
  have p1:=rowC hJ.r3 1 rfl
  have p2:=rowC hJ.r3 2 rfl
  have p3:=rowC hJ.r3 3 rfl
  have p4:=rowC hJ.r3 4 rfl
  have h3:=hJ.h3
  have h34:=hJ.h34
  cases bb
  ·have hRR:R = (⟨k,o,s,n,l⟩,stc):=hJ.eq
   have r0:=rowC hJ.r2 0 rfl
   have r1:=rowC hJ.r2 1 rfl
   have r2:=rowC hJ.r2 2 rfl
   have r3:=rowC hJ.r2 3 rfl
   have r4:=rowC hJ.r2 4 rfl
   have rz:=rowF hJ.r2
   clear hJ
   go_wp2
   rw [hRR]
   exact bodyPost_ret (v:=nodV k o s n (.slice a l.length cap)) (by simp [results,Tryz.results134,go_sem,r0,r1,r2,r3,r4]) rfl (tree_end hg (unhide hI).rs.st (unhide hI).gr (unhide hI).hc (RepNL.to (fun b hb => ⟨⟨hb.1,hb.2.1⟩,rfl⟩) _ _ (unhide hI).rep) (k:=k) (o:=o) (n:=n) (s:=s))
  ·have q0:=rowC hJ.r4 0 rfl
   have q1:=rowC hJ.r4 1 rfl
   have q2:=rowC hJ.r4 2 rfl
   have q3:=rowC hJ.r4 3 rfl
   have hRR:R = loopP 5 sb j (z.node [⟨k,o,s,n,l⟩,(sb stc).1]) (sb stc).2:=hJ.eq
   have hfu:=hJ.fuel rfl
   have HXs:=hide (unhide HX stc hle)
   have hl2:=unhide HSH stc
   have hb4:b4 < wr.heap.size:=(Array.getElem?_eq_some_iff.1 hJ.r4).1
   have HRR:=hide hRR
   unfold ExIs at HXs
   generalize sb stc = q at HXs HRR hl2
   obtain ⟨⟨k2,o2,s2,n2,l2⟩,st2⟩:=q
   clear hJ hRR
   have D0:Hd (Gr g w wr.drew):=(unhide hI).gr.drew
   have D1:Hd (Rs wr.drew g len stc):=(unhide hI).rs.ext (Ext.drew (Ext.refl _))
   go_wp2_with fail
   go_region_law (first
    | (refine step_call_one rfl 136 (.tmp 21) 77 rfl _ (by simp [Act.eval,Act.put]) (enterSigned _ _) (Calls.mono (unhide HXs _ (unhide D0) (unhide D1)) ?_);rintro e w3 ⟨v,rfl,hr,hs,hw⟩;rw [RepN] at hr;obtain ⟨a2,cap2,rfl,hcap2,hl3⟩:=hr;have RE:=hide (hw.row (unhide hI).r3 (by omega));have RF:=hide (hw.row (unhide hI).r4 (by omega));have p0:=rowC (unhide RE) 0 rfl;have p1:=rowC (unhide RE) 1 rfl;have p2:=rowC (unhide RE) 2 rfl;have p3:=rowC (unhide RE) 3 rfl;have p4:=rowC (unhide RE) 4 rfl;have q0:=rowC (unhide RF) 0 rfl;have q1:=rowC (unhide RF) 1 rfl;have q2:=rowC (unhide RF) 2 rfl;have q3:=rowC (unhide RF) 3 rfl;have S3:=hide hs;have L3:=hide hl3;have X3:=hide hw;have hb43:b4 < w3.heap.size:=Nat.lt_of_lt_of_le hb4 hw.size;clear hw hs hl3;refine ⟨_,rfl,?_⟩)
    | (refine step_call_two rfl 118 (.tmp 19) (.tmp 23) 149 27 rfl _ _ (by simp [Act.eval,Act.put]) (by simp [Act.eval,Act.put]) (enterNode _ _ _) (Calls.mono (node_any z (some ⟨w3.heap.size,0,none⟩) 2 2 _) ?_);rintro e w4 ⟨rfl,hw⟩;have RG:=hide (hw.row ((Ext.alloc _ _).row (unhide RE)));have RH:=hide (hw.row ((Ext.alloc _ _).row (unhide RF)));have RI:=hide (hw.row (Go.heap_alloc_new w3 _));have p0:=rowC (unhide RG) 0 rfl;have p1:=rowC (unhide RG) 1 rfl;have p2:=rowC (unhide RG) 2 rfl;have p3:=rowC (unhide RG) 3 rfl;have p4:=rowC (unhide RG) 4 rfl;have pz:=rowF (unhide RG);have q0:=rowC (unhide RH) 0 rfl;have q1:=rowC (unhide RH) 1 rfl;have q2:=rowC (unhide RH) 2 rfl;have q3:=rowC (unhide RH) 3 rfl;have X4:=hide ((Ext.alloc _ _).trans hw);have hb44:b4 < w4.heap.size:=(Array.getElem?_eq_some_iff.1 (unhide RH)).1;clear hw;refine ⟨_,rfl,?_⟩))
   all_goals
    have LM:=LvM.of (unhide HR) (unhide hI) (unhide HRR) hl2 (Gr.drew_of (unhide X3)) (unhide S3) hcap2 (unhide L3) (unhide X4) (unhide RI)
    refine gen_world (F:=fun W5 => Exit.inBlock 1 (Exit.then _ _) Exit.normal _ W5) ?_
    intro W5 hW5
    replace hW5:W5 = set5 w4 w1.heap.size z.k z.o emptyB 0 (.slice (some ⟨w3.heap.size,0,none⟩) 2 2):=hW5
    rw [← hW5] at LM
    have RK:W5.heap[b4]? = some (oprO z):=by rw [hW5,set5_block (by omega)];exact unhide RH
    have q0:=rowC RK 0 rfl
    have q1:=rowC RK 1 rfl
    have q2:=rowC RK 2 rfl
    have q3:=rowC RK 3 rfl
    have hm0:leftN g wr = stc.ts.length:=left_st (unhide hI).rs.st
    have HT:=hide (fun W (x:Rs W g len st2) => takeOp_any len g st2 5 W x.op x.st)
    have hgW:g < W5.heap.size:=LM.rs.st.lt
    have hfj:=LM.fuel
    obtain ⟨j,rfl⟩:∃ i,j = i + 1:=⟨j - 1,by omega⟩
    have M:=hide LM
    have hle2:=takeO_le st2 5
    have hlt2:=takeO_lt (st:=st2) (lv:=5)
    clear LM hW5 RK RE RF RG RH RI S3 L3 X3 X4 hI
    go_wp2_with (go_at_call 117;refine Calls.mono (unhide HT _ ((unhide M).rs.alloc _)) ?_;rintro e w6 ⟨rfl,hs,hw⟩;have LH:=hide (LvM.head (z:=z) (unhide HR) (unhide M) hw hs);have RM:=hw.row (Go.heap_alloc_new W5 _) (by omega);have z0:=rowC RM 0 rfl;have z1:=rowC RM 1 rfl;have z2:=rowC RM 2 rfl;have z3:=rowC RM 3 rfl;have zz:=rowF RM;clear RM hw hs)
    have hm1:=left_st (unhide LH).rs.st
    generalize (st2.takeO 5).1.isSome = bb at *
    generalize (st2.takeO 5).1.getD oprZ = y at *
    generalize (st2.takeO 5).2 = std at *
    go_roundw
    case rel => exact ⟨_,bb,_,_,_,_,_,_,_,y,std,j,rfl,rfl,LH,by omega⟩
    case measure =>
     rw [hm0,hm1]
     cases bb
     ·simp;omega
     ·have:=hlt2 rfl
      simp;omega
end Go.Proofs.YtgkdmgndebifiaaGreatDoor
