/- The lists of what is read are bounded;two such trees that are one are found the same by the document. · The lists of what is read are bounded: statements,blocks,functions. · A text that is too long,however long it is: parse.Expr refuses it. · The document's Program and parse.Program at any text;two programs that are one. -/
import Derived.Test.YtgkdmgndebifiaaGreatDoorZd31
import Derived.Test.YtgkdmgndebifiaaGreatDoorZd32
set_option linter.unusedSimpArgs false
set_option linter.unusedVariables false
set_option maxRecDepth 10000
namespace Go.Proofs.YtgkdmgndebifiaaGreatDoor
open Go.RowKit
def BLf:Nat → PN → Prop
 | 0,_ => False
 | f + 1,p => p.l.length ≤ 1000000 ∧ ∀ x ∈ p.l,BLf f x
def BL (p:PN):Prop:=∃ f,BLf f p
theorem BLf.up:∀ (f:Nat) (p:PN),BLf f p → BLf (f + 1) p
 | 0,p,h => h.elim
 | f + 1,p,h => ⟨h.1,fun x hx => BLf.up f x (h.2 x hx)⟩
theorem BLf.add {f:Nat} {p:PN} (h:BLf f p) (k:Nat):BLf (f + k) p:=by
 induction k with
 | zero => exact h
 | succ k ih => exact BLf.up _ _ ih
theorem BL.all:∀ (l:List PN),(∀ x ∈ l,BL x) → ∃ f,∀ x ∈ l,BLf f x
 | [],_ => ⟨0,fun x h => by cases h⟩
 | a :: l,h => by
  obtain ⟨f1,h1⟩:=h a (by simp)
  obtain ⟨f2,h2⟩:=BL.all l (fun x hx => h x (by simp [hx]))
  refine ⟨f1 + f2,fun x hx => ?_⟩
  rcases List.mem_cons.1 hx with rfl | hx
  ·exact h1.add f2
  ·have:=(h2 x hx).add f1
   rw [Nat.add_comm] at this
   exact this
theorem BL.mk (k o:Int) (s:ByteArray) (n:Int) (l:List PN) (h:l.length ≤ 1000000) (hl:∀ x ∈ l,BL x):BL ⟨k,o,s,n,l⟩:=by
 obtain ⟨f,hf⟩:=BL.all l hl
 exact ⟨f + 1,h,hf⟩
theorem BL.leaf (k o:Int) (s:ByteArray) (n:Int):BL ⟨k,o,s,n,[]⟩:=BL.mk _ _ _ _ _ (by simp) (fun x h => by cases h)
theorem BL.one {a:PN} (k o:Int) (s:ByteArray) (n:Int) (h:BL a):BL ⟨k,o,s,n,[a]⟩:=BL.mk _ _ _ _ _ (by simp) (fun x hx => by simp at hx;subst hx;exact h)
theorem BL.two {a b:PN} (k o:Int) (s:ByteArray) (n:Int) (h:BL a) (h2:BL b):BL ⟨k,o,s,n,[a,b]⟩:=BL.mk _ _ _ _ _ (by simp) (fun x hx => by simp at hx;rcases hx with rfl | rfl;exact h;exact h2)
abbrev BR (f:Rdr):Prop:=∀ st:PS,st.ts.length ≤ 99999 → BL (f st).1
theorem loop_bl {lv:Int} {sub:Rdr} (h:BR sub) (hs:Shorter sub):∀ (f:Nat) (p:PN) (st:PS),BL p → st.ts.length ≤ 99999 → BL (loopP lv sub f p st).1
 | 0,p,st,hp,_ => hp
 | f + 1,p,st,hp,hl => by
  rw [loopP]
  have h1:=takeO_le st lv
  cases e:st.takeO lv with
  | mk b s1 =>
   rw [e] at h1
   cases b
   ·exact hp
   ·simp only at h1
    exact loop_bl h hs f _ _ (BL.two _ _ _ _ hp (h s1 (by omega))) (by have:=hs s1;omega)
theorem lev_bl {lv:Int} {sub:Rdr} (h:BR sub) (hs:Shorter sub) (f:Nat):BR (levP lv sub f):=fun st hl => loop_bl h hs f _ _ (h st hl) (by have:=hs st;omega)
theorem cmp_bl {sub:Rdr} (h:BR sub) (hs:Shorter sub):BR (cmpP sub):=by
 intro st hl
 unfold cmpP
 have h1:=takeO_le (sub st).2 3
 have h2:=hs st
 cases e:(sub st).2.takeO 3 with
 | mk b s1 =>
  rw [e] at h1
  cases b
  ·exact h st hl
  ·simp only at h1
   exact BL.two _ _ _ _ (h st hl) (h s1 (by omega))
theorem more_bl {len:Nat} {ex:Rdr} (h:BR ex) (hs:Shorter ex):∀ (f:Nat) (acc:List PN) (st:PS),(∀ x ∈ acc,BL x) → acc.length + st.ts.length ≤ 100001 → st.ts.length ≤ 99999 → (∀ x ∈ (moreP len ex f acc st).1,BL x) ∧ (moreP len ex f acc st).1.length ≤ 100001
 | 0,acc,st,ha,hb,_ => ⟨ha,by show acc.length ≤ _;omega⟩
 | f + 1,acc,st,ha,hb,hl => by
  rw [moreP]
  unfold PS.takeS
  cases hc:st.isS ⟨#[44]⟩
  ·exact ⟨ha,by show acc.length ≤ _;omega⟩
  ·have hlt:=next_lt hc
   have h2:=hs st.next
   refine more_bl h hs f _ _ (fun x hx => ?_) ?_ ?_
   ·rcases List.mem_append.1 hx with hx | hx
    ·exact ha x hx
    ·simp at hx;subst hx;exact h _ (by omega)
   ·simp;omega
   ·omega
theorem ops_bl {len:Nat} {ex:Rdr} (h:BR ex) (hs:Shorter ex) (f:Nat) (c:ByteArray) (st:PS) (hl:st.ts.length ≤ 99999):(∀ x ∈ (opsP len ex f c st).1,BL x) ∧ (opsP len ex f c st).1.length ≤ 1000000:=by
 unfold opsP PS.takeS
 cases hc:st.isS c
 ·have h2:=hs st
  have:=more_bl (len:=len) h hs f [(ex st).1] (ex st).2 (fun x hx => by simp at hx;subst hx;exact h st (by omega)) (by simp;omega) (by omega)
  exact ⟨this.1,by have:=this.2;show (moreP len ex f [(ex st).1] (ex st).2).1.length ≤ _;omega⟩
 ·exact ⟨fun x hx => absurd hx (show ¬ x ∈ ([]:List PN) by simp),Nat.zero_le _⟩
theorem lit_bl (len:Nat):BR (litP len):=by
 intro st _
 unfold litP
 split
 ·exact BL.leaf _ _ _ _
 split
 ·exact BL.leaf _ _ _ _
 split
 ·exact BL.leaf _ _ _ _
 split
 ·exact BL.leaf _ _ _ _
 ·exact BL.leaf _ _ _ _
theorem inBr_bl {len:Nat} {ex:Rdr} (h:BR ex) (c:ByteArray):BR (inBrP len ex c):=fun st hl => h _ (by have h1:=enter_le st len;have:=next_le (st.enter len);omega)
abbrev BS (f:Rdr):Prop:=BR f
theorem sgl_bl {len:Nat} {ex:Rdr} (h:BR ex) (hs:Shorter ex) (f:Nat):BS (sglP len ex f):=by
 intro st hl
 have h1:=enter_le st len
 unfold sglP
 split
 ·exact inBr_bl h _ st (by omega)
 split
 ·have h2:=psign_le (st.enter len) len ⟨#[91]⟩
  obtain ⟨a,b⟩:=ops_bl (len:=len) h hs f ⟨#[93]⟩ _ (Nat.le_trans (Nat.le_trans h2 h1) hl)
  exact BL.mk _ _ _ _ _ b a
 split
 ·exact BL.leaf _ _ _ _
 split
 ·have h2:=name_le (st.enter len) len
  have h3:=psign_le ((st.enter len).name len).2 len ⟨#[40]⟩
  obtain ⟨a,b⟩:=ops_bl (len:=len) h hs f ⟨#[41]⟩ _ (Nat.le_trans (Nat.le_trans h3 (Nat.le_trans h2 h1)) hl)
  exact BL.mk _ _ _ _ _ b a
 ·exact lit_bl len st (by omega)
theorem ixLoop_bl {len:Nat} {ex:Rdr} (h:BR ex) (hs:Shorter ex):∀ (f:Nat) (p:PN) (st:PS),BL p → st.ts.length ≤ 99999 → BL (ixLoopP len ex f p st).1
 | 0,p,st,hp,_ => hp
 | f + 1,p,st,hp,hl => by
  rw [ixLoopP]
  cases st.oper 7 with
  | none => exact hp
  | some o => exact ixLoop_bl h hs f _ _ (BL.two _ _ _ _ hp (inBr_bl h _ st (by omega))) (Nat.le_trans (inBr_le hs _ st) hl)
theorem idx_bl {len:Nat} {ex:Rdr} (h:BR ex) (hs:Shorter ex) (f:Nat):BS (idxP len ex f):=fun st hl => ixLoop_bl h hs f _ _ (sgl_bl h hs f st hl) (Nat.le_trans (sgl_le hs f st) hl)
theorem sgn_bl {len:Nat} {sg ex:Rdr} (hg:BR sg) (h:BR ex) (hs:Shorter ex) (f:Nat):BR (sgnP len sg ex f):=by
 intro st hl
 unfold sgnP
 have h1:=enter_le st len
 have h2:=next_le (st.enter len)
 cases st.oper 6 with
 | none => exact idx_bl h hs f st hl
 | some o => exact BL.one _ _ _ _ (hg _ (by omega))
theorem both_bl (len f:Nat):BR (bothP len f).1 ∧ BR (bothP len f).2:=by
 induction f with
 | zero => exact ⟨fun _ _ => BL.leaf _ _ _ _,fun _ _ => BL.leaf _ _ _ _⟩
 | succ f ih =>
  obtain ⟨h1,h2⟩:=ih
  obtain ⟨l1,l2⟩:=both_le len f
  have e1:(bothP len (f + 1)).1 = sgnP len (bothP len f).1 (bothP len f).2 (f + 1):=by rw [bothP]
  have e2:(bothP len (f + 1)).2 = orP (sgnP len (bothP len f).1 (bothP len f).2 (f + 1)) (f + 1):=by rw [bothP]
  rw [e1,e2]
  have g6:=sgn_bl (len:=len) h1 h2 l2 (f + 1)
  have s6:=sgn_le (len:=len) l1 l2 (f + 1)
  have g5:=lev_bl (lv:=5) g6 s6 (f + 1)
  have s5:=lev_le (lv:=5) s6 (f + 1)
  have g4:=lev_bl (lv:=4) g5 s5 (f + 1)
  have s4:=lev_le (lv:=4) s5 (f + 1)
  have g3:=cmp_bl g4 s4
  have s3:=cmp_le s4
  have g2:=lev_bl (lv:=2) g3 s3 (f + 1)
  have s2:=lev_le (lv:=2) s3 (f + 1)
  exact ⟨g6,lev_bl (lv:=1) g2 s2 (f + 1)⟩
set_option maxHeartbeats 1000000 in
theorem rsame_blf:∀ (f:Nat) (p:PN),BLf f p → RSameOf p:=by
 intro f
 induction f with
 | zero => intro p h;exact h.elim
 | succ f ih0 =>
  rintro ⟨k,o,s,nn,l⟩ ⟨hlen0,hall0⟩ va vb w h1 h2
  have ih:∀ p ∈ l,RSameOf p:=fun p hp => ih0 p (hall0 p hp)
  simp only at hlen0
  have hlen:l.length ≤ 100000000:=by omega
  rw [RepN] at h1 h2
  obtain ⟨a,ca,rfl,_,hA⟩:=h1
  obtain ⟨b,cb,rfl,_,hB⟩:=h2
  have HS:Hd (∀ p ∈ l,RSameOf p):=ih
  have HA:=hide hA
  have HB:=hide hB
  have HX2:Hd (∀ o1 o2:Obj,Ext w ((w.alloc o1).alloc o2)):=fun o1 o2 => (Ext.alloc _ _).trans (Ext.alloc _ _)
  clear hA hB ih ih0 hall0 hlen0
  generalize hN:l.length = n at *
  have HR1:Hd (∀ W,Ext ((w.alloc (nodW k o s nn a n ca)).alloc (nodW k o s nn b n cb)) W → W.heap[w.heap.size]? = some (nodW k o s nn a n ca) ∧ W.heap[w.heap.size + 1]? = some (nodW k o s nn b n cb)):=fun W x => by
   have e0:((w.alloc (nodW k o s nn a n ca)).alloc (nodW k o s nn b n cb)).heap[w.heap.size]? = some (nodW k o s nn a n ca):=((Ext.alloc _ _).block _ (by rw [size_alloc];omega)).trans (Go.heap_alloc_new w _)
   have e1:=Go.heap_alloc_new (w.alloc (nodW k o s nn a n ca)) (nodW k o s nn b n cb)
   rw [size_alloc] at e1
   exact ⟨(x.block _ (by rw [size_alloc,size_alloc];omega)).trans e0,(x.block _ (by rw [size_alloc,size_alloc];omega)).trans e1⟩
  go_enter Tryz.func21,Tryz.ntmps21
  go_wp2_with fail
  go_loopw [5] (fun t wr => ∃ (j:Nat),t = .int .i64 j ∧ j ≤ n ∧ Hd (Ext ((w.alloc (nodW k o s nn a n ca)).alloc (nodW k o s nn b n cb)) wr)) (fun t _ => n - (intOf t).toNat)
  case atStart => exact ⟨0,rfl,by omega,Ext.refl _⟩
  case round =>
   obtain ⟨j,rfl,hj,hX⟩:=hrel
   obtain ⟨R1,R2⟩:=unhide HR1 _ (unhide hX)
   have c4:=rowC R1 4 rfl
   have d4:=rowC R2 4 rfl
   clear R1 R2
   by_cases hlt:j < n
   ·obtain ⟨p,hp⟩:∃ p,l[j]? = some p:=⟨_,List.getElem?_eq_getElem (by omega)⟩
    have hW:=(unhide HX2 (nodW k o s nn a n ca) (nodW k o s nn b n cb)).trans (unhide hX)
    obtain ⟨b1,o1,x0,x1,x2,x3,x4,rfl,f1,r1,e0,e1,e2,e3,e4⟩:=repNL_at ((unhide HA).inw hW) j p hp
    obtain ⟨b2,o2,y0,y1,y2,y3,y4,rfl,f2,r2,g0,g1,g2,g3,g4⟩:=repNL_at ((unhide HB).inw hW) j p hp
    have HP:=hide (fun (W:World) (k:Ext wr W) => unhide HS p (List.mem_of_getElem? hp) _ _ W (r1.inw k) (r2.inw k))
    clear r1 r2 f1 f2 hp hW
    go_wp2_with fail
    go_region_law (first
     | (refine step_call_two rfl 21 (.tmp 52) (.tmp 57) 29 29 rfl _ _ (by simp [Act.eval,Act.put]) (by simp [Act.eval,Act.put]) (enterRSame _ _ _) (Calls.mono (unhide HP _ ((Ext.refl _).drew)) ?_);rintro e w2 ⟨rfl,hw⟩;have X2:=hide (((unhide hX).trans ((Ext.refl _).drew)).trans hw);clear hw;refine ⟨_,rfl,?_⟩))
    all_goals
     go_wp2_with fail
     go_roundw
     case rel => exact ⟨j + 1,by go_num,by omega,X2⟩
     case measure => simp [intOf];omega
   ·obtain rfl:j = n:=by omega
    go_wp2_with fail
    go_ret
    exact ⟨rfl,(unhide HX2 _ _).trans (unhide hX)⟩
theorem rsame_bl (p:PN) (h:BL p):RSameOf p:=by
 obtain ⟨f,hf⟩:=h
 exact rsame_blf f p hf
end Go.Proofs.YtgkdmgndebifiaaGreatDoor
namespace Go.Proofs.YtgkdmgndebifiaaGreatDoor
open Go.RowKit
theorem BL.three {a b c:PN} (k o:Int) (s:ByteArray) (n:Int) (h:BL a) (h2:BL b) (h3:BL c):BL ⟨k,o,s,n,[a,b,c]⟩:=BL.mk _ _ _ _ _ (by simp) (fun x hx => by simp at hx;rcases hx with rfl | rfl | rfl;exact h;exact h2;exact h3)
theorem ex_bl (len f:Nat):BR (exP len f):=(both_bl len f).2
theorem ofEx_bl {len:Nat} {ex:Rdr} (h:BR ex) (k:Int):BR (ofExP len ex k):=fun st hl => BL.one _ _ _ _ (h st hl)
theorem plain_bl (len:Nat) (k:Int):BR (plainP len k):=fun st _ => BL.leaf _ _ _ _
theorem answer_bl {len:Nat} {ex:Rdr} (h:BR ex):BR (answerP len ex):=by
 intro st hl
 unfold answerP
 split
 ·exact plain_bl len 7 st hl
 ·exact ofEx_bl h 7 st hl
theorem named_bl {len:Nat} {ex:Rdr} (h:BR ex) (k:Int):BR (namedP len ex k):=by
 intro st hl
 have h1:=name_le st len
 have h2:=psign_le (st.name len).2 len ⟨#[61]⟩
 exact BL.one _ _ _ _ (h _ (by omega))
theorem blkLoop_bl {len:Nat} {ex bl ch:Rdr} (he:Shorter ex) (hb:Shorter bl) (hc:Shorter ch) (h:BR (stmP len ex bl ch)):∀ (f:Nat) (acc:List PN) (st:PS),(∀ x ∈ acc,BL x) → acc.length + st.ts.length ≤ 100001 → st.ts.length ≤ 99999 → (∀ x ∈ (blkLoop (stmP len ex bl ch) f acc st).1,BL x) ∧ (blkLoop (stmP len ex bl ch) f acc st).1.length ≤ 100001
 | 0,acc,st,ha,hn,_ => ⟨ha,by show acc.length ≤ _;omega⟩
 | f + 1,acc,st,ha,hn,hl => by
  rw [blkLoop]
  split
  ·exact ⟨ha,by show acc.length ≤ _;omega⟩
  ·rename_i hs
   have hne:st.ts ≠ []:=fun e => by
    unfold PS.stop at hs
    rw [e] at hs
    exact hs rfl
   have hlt:=stm_lt (len:=len) he hb hc hne
   refine blkLoop_bl he hb hc h f _ _ (fun x hx => ?_) ?_ (by omega)
   ·rcases List.mem_append.1 hx with hx | hx
    ·exact ha x hx
    ·simp at hx;subst hx;exact h st hl
   ·simp;omega
theorem blk_bl {len:Nat} {ex bl ch:Rdr} (he:Shorter ex) (hb:Shorter bl) (hc:Shorter ch) (h:BR (stmP len ex bl ch)) (f:Nat):BR (blkP len (stmP len ex bl ch) f):=by
 intro st hl
 have h1:=enter_le st len
 have h2:=next_le (st.enter len)
 unfold blkP
 split
 ·obtain ⟨a,b⟩:=blkLoop_bl he hb hc h f [] (st.enter len).next (fun x hx => by cases hx) (by simp;omega) (by omega)
  exact BL.mk _ _ _ _ _ (by omega) a
 ·exact BL.leaf _ _ _ _
theorem cho_bl {ex bl ot:Rdr} (he:Shorter ex) (hb:Shorter bl) (h:BR ex) (h2:BR bl) (h3:BR ot):BR (choP ex bl ot):=by
 intro st hl
 have l1:=he st
 have l2:=hb (ex st).2
 have l3:=next_le (bl (ex st).2).2
 unfold choP
 split
 ·exact BL.three _ _ _ _ (h st hl) (h2 _ (by omega)) (h3 _ (by omega))
 ·exact BL.two _ _ _ _ (h st hl) (h2 _ (by omega))
theorem oth_bl {ch bl:Rdr} (h:BR ch) (hb:BR bl):BR (othP ch bl):=by
 intro st hl
 have l3:=next_le st
 unfold othP
 split
 ·exact BL.one _ _ _ _ (h _ (by omega))
 ·exact hb st hl
theorem stm_bl {len:Nat} {ex bl ch:Rdr} (he:Shorter ex) (h:BR ex) (hb:BR bl) (hc:BR ch):BR (stmP len ex bl ch):=by
 intro st hl
 have l:=next_le st
 have m:st.next.ts.length ≤ 99999:=by omega
 have l2:=he st.next
 unfold stmP
 split
 ·exact named_bl h 1 _ m
 split
 ·exact named_bl h 2 _ hl
 split
 ·exact hc _ m
 split
 ·exact BL.two _ _ _ _ (h _ m) (hb _ (by omega))
 split
 ·exact plain_bl len 5 _ m
 split
 ·exact plain_bl len 6 _ m
 split
 ·exact answer_bl h _ m
 split
 ·exact ofEx_bl h 8 _ m
 ·exact ofEx_bl h 9 _ hl
theorem sts_bl (len fe:Nat) (f:Nat):BR (stsP len fe f).1 ∧ BR (stsP len fe f).2.1 ∧ BR (stsP len fe f).2.2:=by
 induction f with
 | zero => exact ⟨fun _ _ => BL.leaf _ _ _ _,fun _ _ => BL.leaf _ _ _ _,fun _ _ => BL.leaf _ _ _ _⟩
 | succ f ih =>
  obtain ⟨h1,h2,h3⟩:=ih
  obtain ⟨l1,l2,l3⟩:=sts_le len fe f
  have hx:=ex_bl len fe
  have lx:=ex_le len fe
  have hb:BR (blkP len (stsP len fe f).1 (f + 1)):=by
   cases f with
   | zero =>
    intro st hl
    have e:(stsP len fe 0).1 = fun st => (nodeZ,st):=rfl
    unfold blkP
    split
    ·have:(blkLoop (stsP len fe 0).1 (0 + 1) [] (st.enter len).next).1.length ≤ 1 ∧ ∀ x ∈ (blkLoop (stsP len fe 0).1 (0 + 1) [] (st.enter len).next).1,BL x:=by
      rw [e,blkLoop]
      split
      ·exact ⟨by simp,fun x hx => by cases hx⟩
      ·rw [blkLoop]
       exact ⟨by simp,fun x hx => by simp at hx;subst hx;exact BL.leaf _ _ _ _⟩
     exact BL.mk _ _ _ _ _ (by omega) this.2
    ·exact BL.leaf _ _ _ _
   | succ f =>
    obtain ⟨k1,k2,k3⟩:=sts_le len fe f
    have e:(stsP len fe (f + 1)).1 = stmP len (exP len fe) (stsP len fe f).2.1 (stsP len fe f).2.2:=by rw [stsP]
    rw [e] at h1 ⊢
    exact blk_bl lx k2 k3 h1 (f + 1 + 1)
  have e1:(stsP len fe (f + 1)).1 = stmP len (exP len fe) (stsP len fe f).2.1 (stsP len fe f).2.2:=by rw [stsP]
  have e2:(stsP len fe (f + 1)).2.1 = blkP len (stsP len fe f).1 (f + 1):=by rw [stsP]
  have e3:(stsP len fe (f + 1)).2.2 = choP (exP len fe) (blkP len (stsP len fe f).1 (f + 1)) (othP (stsP len fe f).2.2 (stsP len fe f).2.1):=by rw [stsP]
  rw [e1,e2,e3]
  exact ⟨stm_bl lx hx h2 h3,hb,cho_bl lx (blk_le l1 _) hx hb (oth_bl h3 h2)⟩
end Go.Proofs.YtgkdmgndebifiaaGreatDoor
namespace Go.Proofs.YtgkdmgndebifiaaGreatDoor
open Go.RowKit
theorem ltokens_long (s:ByteArray) (w:World) (hs:4000 < s.size) (hmax:s.size ≤ 9223372036854775807) :
  Calls Tryz.prog 42 #[.string s] w fun e w' => e = .returned (.tuple #[.slice none 0 0,.int .i64 0,.int .i64 2]) ∧ Ext w w':=by
 go_enter Tryz.func42,Tryz.ntmps42
 go_wp2
 go_step3
 go_wp2
 try rw [Exit.noGoto_ret]
 go_ret3
 exact ⟨rfl,Ext.refl _⟩
theorem toks_beg_long (s:ByteArray) (w:World) (hl:4000 < s.size) (hmax:s.size ≤ 9223372036854775807) :
  Calls Tryz.prog 42 #[.string s] w fun e w' => ∃ a n cap,e = .returned (.tuple #[.slice a n cap,.int .i64 (begP s).pl,.int .i64 (begP s).e]) ∧ (begP s).op = 0 ∧ (∀ ob,Sl (w'.alloc ob) w'.heap.size (.slice a n cap) (begP s).ts) ∧ Ext w w':=by
 refine (ltokens_long s w hl hmax).mono ?_
 rintro e w1 ⟨rfl,hx⟩
 rw [begP_long hl]
 exact ⟨none,0,0,rfl,rfl,fun _ => slNil _ _,hx⟩
set_option maxHeartbeats 1000000 in
theorem pbegin_long (s:ByteArray) (w:World) (hl:4000 < s.size) (hmax:s.size ≤ 9223372036854775807) :
  Calls Tryz.prog 22 #[.string s] w fun e w' => ∃ g,e = .returned (.pointer (some ⟨g,0,none⟩)) ∧ w.heap.size ≤ g ∧ St w' g s.size (begP s) ∧ Ext w w':=by
 have HT:=hide (toks_beg_long s w hl hmax)
 generalize begP s = st at *
 obtain ⟨ts,op,pl,er⟩:=st
 go_enter Tryz.func22,Tryz.ntmps22
 go_wp2_with (go_at_call 42;refine Calls.mono (unhide HT) ?_;rintro e w1 ⟨a,n,cap,rfl,hop,hs,hx⟩;have HO:=hide hop;have HS:=hide hs;have X:=hide hx;clear hop hs hx)
 go_ret
 have hop:op = 0:=unhide HO
 subst hop
 exact ⟨_,rfl,(unhide X).le,⟨⟨_,Go.heap_alloc_new w1 _,unhide HS _⟩⟩,(unhide X).trans (Ext.alloc _ _)⟩
end Go.Proofs.YtgkdmgndebifiaaGreatDoor
namespace Go.Proofs.YtgkdmgndebifiaaGreatDoor
open Go.RowKit
theorem rprog_any (s:ByteArray) (f:Nat) (w:World) (hmax:s.size ≤ 9223372036854775807) (hf:(begP s).ts.length < f) (hf2:f ≤ 90000):Calls Tryz.prog 5 #[.string s] w (RToldF (rdP s f) w):=by
 by_cases hs:4000 < s.size
 ·have hb:=begP_long hs
  have hx:=rd_bad (s:=s) (f:=f) (by rw [hb];exact ⟨fun e => absurd e (show ¬ (2:Int) = 0 by decide),fun _ => rfl⟩) (by rw [hb];exact (show ¬ (2:Int) = 0 by decide))
  rw [hb] at hx
  refine rprog_err s f w 0 2 (by decide) hx fun W => Calls.mono (rtokens_any s W (by omega)) ?_
  rintro e w' (⟨_,he,hw⟩ | ⟨h9,_⟩ | ⟨h9,_⟩)
  ·exact ⟨he,hw⟩
  ·omega
  ·omega
 ·cases hn:(lexF (s.size + 1) s 0).2 with
  | some b =>
   have hb:=begP_bad (by omega) hn
   have hx:=rd_bad (s:=s) (f:=f) (by rw [hb];exact ⟨fun e => absurd e (show ¬ (10:Int) = 0 by decide),fun _ => rfl⟩) (by rw [hb];exact (show ¬ (10:Int) = 0 by decide))
   rw [hb] at hx
   refine rprog_err s f w b 10 (by decide) hx fun W => Calls.mono (rtokens_any s W (by omega)) ?_
   rintro e w' (⟨h9,_⟩ | ⟨_,b2,h9,he,hw⟩ | ⟨_,h9,_⟩)
   ·omega
   ·rw [hn] at h9
    injection h9 with h9
    subst h9
    exact ⟨he,hw⟩
   ·rw [hn] at h9;cases h9
  | none => exact rprog_ok s f w (by omega) hn hf hf2
set_option maxHeartbeats 1000000 in
theorem program_of (s:ByteArray) (f:Nat) (w:World) (he:Er w) (hO:Opx w) (hBg:Calls Tryz.prog 22 #[.string s] w fun e w' => ∃ g,e = .returned (.pointer (some ⟨g,0,none⟩)) ∧ w.heap.size ≤ g ∧ St w' g s.size (begP s) ∧ Ext w w') (hf:(begP s).ts.length < f) (hf2:f ≤ 100000) :
  Calls Tryz.prog 11 #[.string s] w (ProgOf (rdP s f) w):=by
 have HBg:=hide hBg
 have hlen:=funs_len s.size (stsP s.size f f).2.1 f (blkIs_le s.size f) f [] (begP s)
 have HF:=hide (fun gg W (x:Rs W gg s.size (begP s)) => funs_any s.size gg (stsP s.size f f).2.1 f (begP s) W x hf hf2 (blkIs_le s.size f) (fun p hp => (blkIs gg s.size f hf2).ex p W (by omega)))
 have hp:=opx_lt hO
 have HO:=hide hO
 replace HF:Hd (∀ gg W,Rs W gg s.size (begP s) → Calls Tryz.prog 23 #[.pointer (some ⟨gg,0,none⟩)] W (FunsAre gg s.size W (rdP s f))):=HF
 replace hlen:(rdP s f).1.length ≤ 100001:=by
  have:(rdP s f).1.length ≤ 0 + (begP s).ts.length:=hlen
  omega
 generalize rdP s f = q at *
 generalize begP s = st0 at *
 obtain ⟨fs,⟨ts,op,pl,er⟩⟩:=q
 clear hO hf he hBg
 by_cases h0:er = 0
 ·subst h0
  cases ht:tooP fs
  ·go_enter Tryz.func11,Tryz.ntmps11
   go_wp2_with (first
    | (go_at_call 22;refine Calls.mono (unhide HBg) ?_;rintro e w1 ⟨gg,rfl,hgg,hs,hw⟩;have S1:=hide hs;have X1:=hide hw;have O1:=hide (Rs.mk hs ((unhide HO).ext hw) (by omega));clear hw hs)
    | (go_at_call 23;refine Calls.mono (unhide HF gg _ (unhide O1)) ?_;rintro e w2 ⟨a,cap,rfl,hcap,hfl,hs,hw⟩;have HTo:=hide (too_any fs a cap _ w2 hfl hcap hlen);have c3:w2.cell? ⟨gg,3,none⟩ = some (.int .i64 pl):=(by obtain ⟨T,h1,_⟩:=hs.ex;exact rowC h1 3 rfl);have c4:w2.cell? ⟨gg,4,none⟩ = some (.int .i64 0):=(by obtain ⟨T,h1,_⟩:=hs.ex;exact rowC h1 4 rfl);have FL:=hide hfl;have X2:=hide ((unhide X1).gr hw hgg);have hz2:w1.heap.size ≤ w2.heap.size:=hw.size;have hz1:w.heap.size ≤ w1.heap.size:=(unhide X1).le;clear hw hs hfl)
    | (go_at_call 24;refine Calls.mono (unhide HTo) ?_;rintro e w3 ⟨he,hw⟩;rw [ht] at he;obtain rfl:=he;have X3:=hide hw;clear hw))
   exact bodyPost_ret (v:=.tuple #[.slice a fs.length cap,.int .i64 0,.int .i64 0]) (by simp [results,Tryz.results11]) rfl ⟨(unhide X2).trans (unhide X3),Or.inr (Or.inr ⟨rfl,ht,a,cap,rfl,hcap,RepFL.to (fun b hb => ⟨⟨by have:=hb.1;omega,Nat.lt_of_lt_of_le hb.2 (unhide X3).le⟩,(unhide X3).block b hb.2⟩) (unhide FL)⟩)⟩
  ·go_enter Tryz.func11,Tryz.ntmps11
   go_wp2_with (first
    | (go_at_call 22;refine Calls.mono (unhide HBg) ?_;rintro e w1 ⟨gg,rfl,hgg,hs,hw⟩;have S1:=hide hs;have X1:=hide hw;have O1:=hide (Rs.mk hs ((unhide HO).ext hw) (by omega));clear hw hs)
    | (go_at_call 23;refine Calls.mono (unhide HF gg _ (unhide O1)) ?_;rintro e w2 ⟨a,cap,rfl,hcap,hfl,hs,hw⟩;have HTo:=hide (too_any fs a cap _ w2 hfl hcap hlen);have c3:w2.cell? ⟨gg,3,none⟩ = some (.int .i64 pl):=(by obtain ⟨T,h1,_⟩:=hs.ex;exact rowC h1 3 rfl);have c4:w2.cell? ⟨gg,4,none⟩ = some (.int .i64 0):=(by obtain ⟨T,h1,_⟩:=hs.ex;exact rowC h1 4 rfl);have FL:=hide hfl;have X2:=hide ((unhide X1).gr hw hgg);have hz2:w1.heap.size ≤ w2.heap.size:=hw.size;have hz1:w.heap.size ≤ w1.heap.size:=(unhide X1).le;clear hw hs hfl)
    | (go_at_call 24;refine Calls.mono (unhide HTo) ?_;rintro e w3 ⟨he,hw⟩;rw [ht] at he;obtain rfl:=he;have X3:=hide hw;clear hw))
   exact bodyPost_ret (v:=.tuple #[.slice none 0 0,.int .i64 0,.int .i64 65]) (by simp [results,Tryz.results11]) rfl ⟨(unhide X2).trans (unhide X3),Or.inr (Or.inl ⟨rfl,ht,rfl⟩)⟩
 ·have h1:(er == 0) = false:=by simpa using h0
  have h2:(er != 0) = true:=by simp [h0]
  have H0:=hide h0
  clear h0
  go_enter Tryz.func11,Tryz.ntmps11
  go_wp2_with (first
   | (go_at_call 22;refine Calls.mono (unhide HBg) ?_;rintro e w1 ⟨gg,rfl,hgg,hs,hw⟩;have S1:=hide hs;have X1:=hide hw;have O1:=hide (Rs.mk hs ((unhide HO).ext hw) (by omega));clear hw hs)
   | (go_at_call 23;refine Calls.mono (unhide HF gg _ (unhide O1)) ?_;rintro e w2 ⟨a,cap,rfl,hcap,hfl,hs,hw⟩;have HTo:=hide (too_any fs a cap _ w2 hfl hcap hlen);have c3:w2.cell? ⟨gg,3,none⟩ = some (.int .i64 pl):=(by obtain ⟨T,h1,_⟩:=hs.ex;exact rowC h1 3 rfl);have c4:w2.cell? ⟨gg,4,none⟩ = some (.int .i64 er):=(by obtain ⟨T,h1,_⟩:=hs.ex;exact rowC h1 4 rfl);have FL:=hide hfl;have X2:=hide ((unhide X1).gr hw hgg);have hz2:w1.heap.size ≤ w2.heap.size:=hw.size;have hz1:w.heap.size ≤ w1.heap.size:=(unhide X1).le;clear hw hs hfl))
  go_region
  go_wp2_with fail
  exact bodyPost_ret (v:=.tuple #[.slice none 0 0,.int .i64 pl,.int .i64 er]) (by simp [results,Tryz.results11]) rfl ⟨(unhide X2).trans (Ext.drew (Ext.refl _)),Or.inl ⟨unhide H0,rfl⟩⟩
theorem program_all (s:ByteArray) (f:Nat) (w:World) (he:Er w) (hO:Opx w) (hmax:s.size ≤ 9223372036854775807) (hf:(begP s).ts.length < f) (hf2:f ≤ 100000) :
  Calls Tryz.prog 11 #[.string s] w (ProgOf (rdP s f) w):=by
 by_cases h4:4000 < s.size
 ·exact program_of s f w he hO (pbegin_long s w h4 hmax) hf hf2
 ·exact program_any s f w he hO (by omega) hf hf2
set_option maxHeartbeats 2000000 in
theorem rsameF_bl (l:List PFn) (hl:∀ q ∈ l,q.ps.length ≤ 100000000 ∧ BL q.bd) (a b:Option Addr) (ca cb:Nat) (w:World) (h1:RepFL w (InW w) l a) (h2:RepFL w (InW w) l b) (hn:l.length ≤ 100000000) :
  Calls Tryz.prog 9 #[.slice a l.length ca,.slice b l.length cb] w fun e w' => e = .returned (.bool true) ∧ Ext w w':=by
 have HA:=hide h1
 have HB:=hide h2
 have HS:=hide hl
 clear h1 h2 hl
 generalize hN:l.length = n at *
 go_enter Tryz.func9,Tryz.ntmps9
 go_wp2_with fail
 go_loopw [5] (fun t wr => ∃ (j:Nat),t = .int .i64 j ∧ j ≤ n ∧ Hd (Ext w wr)) (fun t _ => n - (intOf t).toNat)
 case atStart => exact ⟨0,rfl,by omega,Ext.refl w⟩
 case round =>
  obtain ⟨j,rfl,hj,hX⟩:=hrel
  by_cases hlt:j < n
  ·obtain ⟨q,hq⟩:∃ q,l[j]? = some q:=⟨_,List.getElem?_eq_getElem (by omega)⟩
   have hbq:=unhide HS q (List.mem_of_getElem? hq)
   obtain ⟨b1,o1,pa,ca1,qa,da,rfl,f1,k1,_,s1,m1,t1⟩:=((unhide HA).inw (unhide hX)).at j q hq
   obtain ⟨b2,o2,pb,cb1,qb,db,rfl,f2,k2,_,s2,m2,t2⟩:=((unhide HB).inw (unhide hX)).at j q hq
   obtain ⟨nm,ps,bk,bo,bs,bn,bl⟩:=q
   simp only at hbq
   obtain ⟨hps,hbN⟩:=hbq
   simp only at k1 k2 s1 s2 m1 m2 t1 t2 hps
   have HP:=hide (fun (W:World) (k:Ext wr W) => rsame_bl ⟨bk,bo,bs,bn,bl⟩ hbN (.agg #[.int .i64 bk,.int .i64 bo,.string bs,.int .i64 bn,.slice qa bl.length da]) (.agg #[.int .i64 bk,.int .i64 bo,.string bs,.int .i64 bn,.slice qb bl.length db]) W (by rw [RepN];exact ⟨_,_,rfl,m1,t1.inw k⟩) (by rw [RepN];exact ⟨_,_,rfl,m2,t2.inw k⟩))
   have K1:=hide k1
   have K2:=hide k2
   have S1:=hide s1
   have S2:=hide s2
   have HW:Nonempty (RGw wr):=⟨⟨wr,Ext.refl _⟩⟩
   have kc0:∀ y:RGw wr,y.w.cell? ⟨b1,o1 + j * 7,none⟩ = some (.string nm):=fun y => y.h.cell (k1 0 _ rfl)
   have kc1:∀ y:RGw wr,y.w.cell? ⟨b1,o1 + j * 7 + 1,none⟩ = some (.slice pa ps.length ca1):=fun y => y.h.cell (k1 1 _ rfl)
   have kc2:∀ y:RGw wr,y.w.cell? ⟨b1,o1 + j * 7 + 2,none⟩ = some (.int .i64 bk):=fun y => y.h.cell (k1 2 _ rfl)
   have kc3:∀ y:RGw wr,y.w.cell? ⟨b1,o1 + j * 7 + 3,none⟩ = some (.int .i64 bo):=fun y => y.h.cell (k1 3 _ rfl)
   have kc4:∀ y:RGw wr,y.w.cell? ⟨b1,o1 + j * 7 + 4,none⟩ = some (.string bs):=fun y => y.h.cell (k1 4 _ rfl)
   have kc5:∀ y:RGw wr,y.w.cell? ⟨b1,o1 + j * 7 + 5,none⟩ = some (.int .i64 bn):=fun y => y.h.cell (k1 5 _ rfl)
   have kc6:∀ y:RGw wr,y.w.cell? ⟨b1,o1 + j * 7 + 6,none⟩ = some (.slice qa bl.length da):=fun y => y.h.cell (k1 6 _ rfl)
   have kd0:∀ y:RGw wr,y.w.cell? ⟨b2,o2 + j * 7,none⟩ = some (.string nm):=fun y => y.h.cell (k2 0 _ rfl)
   have kd1:∀ y:RGw wr,y.w.cell? ⟨b2,o2 + j * 7 + 1,none⟩ = some (.slice pb ps.length cb1):=fun y => y.h.cell (k2 1 _ rfl)
   have kd2:∀ y:RGw wr,y.w.cell? ⟨b2,o2 + j * 7 + 2,none⟩ = some (.int .i64 bk):=fun y => y.h.cell (k2 2 _ rfl)
   have kd3:∀ y:RGw wr,y.w.cell? ⟨b2,o2 + j * 7 + 3,none⟩ = some (.int .i64 bo):=fun y => y.h.cell (k2 3 _ rfl)
   have kd4:∀ y:RGw wr,y.w.cell? ⟨b2,o2 + j * 7 + 4,none⟩ = some (.string bs):=fun y => y.h.cell (k2 4 _ rfl)
   have kd5:∀ y:RGw wr,y.w.cell? ⟨b2,o2 + j * 7 + 5,none⟩ = some (.int .i64 bn):=fun y => y.h.cell (k2 5 _ rfl)
   have kd6:∀ y:RGw wr,y.w.cell? ⟨b2,o2 + j * 7 + 6,none⟩ = some (.slice qb bl.length db):=fun y => y.h.cell (k2 6 _ rfl)
   clear k1 k2 s1 s2 t1 t2 f1 f2 hq hbN K1 K2
   generalize bl.length = m at *
   generalize hPN:ps.length = pn at *
   go_wp2_with fail
   refine wp_region_rx (W:=wr) (by kernel_rfl) (by kernel_rfl) (Ext.refl _) ?_
   repeat (go_big_quiet_step (first
    | (go_at_call 21;exact Calls.rx_of _ _ (unhide HP _ (RGw.h _)))))
   refine wpQuiet_nil ?_
   rintro _ ⟨⟨w2,hx⟩,rfl⟩
   have HX:=hide hx
   clear hx kc0 kc2 kc3 kc4 kc5 kc6 kd0 kd2 kd3 kd4 kd5 kd6
   have kc1:=hide kc1
   have kd1:=hide kd1
   have a1:=unhide kc1 ⟨_,unhide HX⟩
   simp only at a1
   go_wp2_with fail
   go_loopw [6] (fun t wr2 => ∃ (k:Nat),t = .int .i64 k ∧ k ≤ pn ∧ Hd (Ext wr wr2)) (fun t _ => pn - (intOf t).toNat)
   case atStart => exact ⟨0,rfl,by omega,HX⟩
   case round =>
    clear HX
    obtain ⟨k,rfl,hk,hx⟩:=hrel
    have a1:=unhide kc1 ⟨_,unhide hx⟩
    have a2:=unhide kd1 ⟨_,unhide hx⟩
    simp only at a1 a2
    by_cases hlt2:k < pn
    ·obtain ⟨p,hp⟩:∃ p,ps[k]? = some p:=⟨_,List.getElem?_eq_getElem (by omega)⟩
     obtain ⟨c1,x1,rfl,f1,e0⟩:=((unhide S1).inw (unhide hx)).at k p hp
     obtain ⟨c2,x2,rfl,f2,g0⟩:=((unhide S2).inw (unhide hx)).at k p hp
     clear f1 f2 hp
     go_wp2_with fail
     go_region
     go_wp2_with fail
     go_roundw
     case rel => exact ⟨k + 1,by go_num,by omega,(unhide hx).drew⟩
     case measure => simp [intOf];omega
    ·obtain rfl:k = pn:=by omega
     go_wp2_with fail
     go_roundw
     case rel => exact ⟨j + 1,by go_num,by omega,(unhide hX).trans (unhide hx)⟩
     case measure => simp [intOf];omega
  ·obtain rfl:j = n:=by omega
   go_wp2_with fail
   go_ret
   exact ⟨rfl,unhide hX⟩
theorem parLoop_len (len:Nat):∀ (f:Nat) (acc:List ByteArray) (st:PS),(parLoop len f acc st).1.length ≤ acc.length + f
 | 0,acc,st => by simp [parLoop]
 | f + 1,acc,st => by
  rw [parLoop]
  split
  ·have h:=parLoop_len len f (acc ++ [(st.next.name len).1]) (st.next.name len).2
   simp at h
   omega
  ·simp
theorem par_len (len f:Nat) (st:PS):(parP len f st).1.length ≤ 1 + f:=by
 unfold parP
 split
 ·simp
 ·exact parLoop_len len f _ _
theorem funs_bl (len:Nat) {bl:Rdr} (hb:Shorter bl) (hB:BR bl) (f:Nat) (hf:f ≤ 100000):∀ (j:Nat) (acc:List PFn) (st:PS),st.ts.length ≤ 99999 → (∀ q ∈ acc,q.ps.length ≤ 100000000 ∧ BL q.bd) → ∀ q ∈ (funsP len bl f j acc st).1,q.ps.length ≤ 100000000 ∧ BL q.bd
 | 0,acc,st,hl,ha => ha
 | j + 1,acc,st,hl,ha => by
  rw [funsP]
  split
  ·exact ha
  ·rename_i hz
   have hne:st.ts ≠ []:=fun e => by rw [e] at hz;simp at hz
   have h1:=fun_lt (len:=len) (f:=f) hb hne
   have h2:=funB_lt (len:=len) (f:=f) hne
   refine funs_bl len hb hB f hf j _ _ (by omega) (fun q hq => ?_)
   rcases List.mem_append.1 hq with hq | hq
   ·exact ha q hq
   ·simp at hq
    subst hq
    refine ⟨?_,hB _ (by omega)⟩
    have h3:=par_len len f ((funA len st).2.sign len ⟨#[40]⟩)
    show (parP len f ((funA len st).2.sign len ⟨#[40]⟩)).1.length ≤ _
    omega
theorem rd_bl (s:ByteArray) (f:Nat) (hf:f ≤ 100000):∀ q ∈ (rdP s f).1,q.ps.length ≤ 100000000 ∧ BL q.bd :=
 funs_bl s.size (sts_le s.size f f).2.1 (sts_bl s.size f f).2.1 f hf f [] (begP s) (by have:=begP_len s;omega) (fun q h => by cases h)
end Go.Proofs.YtgkdmgndebifiaaGreatDoor
