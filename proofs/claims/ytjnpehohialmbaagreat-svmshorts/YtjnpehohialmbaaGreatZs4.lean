/- What operators of a level join,from left to right: one text for each level. -/
import Derived.Test.YtjnpehohialmbaaGreatZs3
set_option linter.unusedSimpArgs false
set_option linter.unusedVariables false
set_option maxRecDepth 10000
namespace Go.Proofs.YtjnpehohialmbaaGreat
open Go.RowKit
section
theorem step_call_two {P:Program} {w:World} {ops:Array Oper} {o:Oper} {a:Act} {K:Act→World→Prop} {Q:Exit→Act→World→Prop} {E:Prop}
  (hg:o.guard=none) (f:FuncId) (x y:Operand) (t u:TypeId) (hop:o.op=Op.call { callee:=Callee.value (.func f),args:=#[x,y],argTypes:=#[t,u] })
  (v v':Value) (hx:a.eval x=v) (hy:a.eval y=v') (hf:(callFunc f #[v,v']).run P w = .ok (.enter f #[v,v']) w) (hK:Calls P f #[v,v'] w fun e w' => ∃ r,e = .returned r∧K (a.put o.dst r) w') :
  if Region.wanted o (yielded ops a.tmps)=true then Oper.wp P o a w K Q else E:=by
 have hw:Region.wanted o (yielded ops a.tmps)=true:=by simp[Region.wanted,hg]
 rw[if_pos hw];have he:a.eval (.func f) = .func (.func f) #[] #[]:=rfl;unfold Oper.wp;have hrun:(execOp a.eval o).run P w = .ok (.enter f #[v,v']) w:=by
  simp[execOp,hop,resolve,invoke,hx,hy,he,Result.andThen,Deferred.ofValue,hf]
 rw[hrun,Oper.upon_enter];refine hK.mono ?_;rintro e w' ⟨r,rfl,h⟩;exact h
theorem Gr.drew_of {g:Nat} {w w':World} (h:Gr g w.drew w'):Gr g w w':=⟨h.os,h.tape,h.output,h.size,h.block⟩
theorem pair_rep {W:World} {F:Nat→Prop} {B:Nat} {t:TypeId} {k o n k2 o2 n2:Int} {s s2:ByteArray} {l l2:List PN} {a a2:Option Addr} {cap cap2:Nat} (hB:W.heap[B]? = some (.cells #[.int .i64 k,.int .i64 o,.string s,.int .i64 n,.slice a l.length cap,.int .i64 k2,.int .i64 o2,.string s2,.int .i64 n2,.slice a2 l2.length cap2] t (0,0)))
  (hF:F B) (h1:l.length≤cap) (h2:l2.length≤cap2) (r1:RepNL W F l a) (r2:RepNL W F l2 a2):RepNL W F [⟨k,o,s,n,l⟩,⟨k2,o2,s2,n2,l2⟩] (some ⟨B,0,none⟩):=by
 rw[RepNL];refine⟨B,0,_,_,_,_,_,rfl,hF,by rw[RepN];exact⟨a,cap,rfl,h1,r1⟩,zr hB 0 rfl,zr hB 1 rfl,zr hB 2 rfl,zr hB 3 rfl,zr hB 4 rfl,?_⟩;rw[RepNL];exact⟨B,5,_,_,_,_,_,rfl,hF,by rw[RepN];exact⟨a2,cap2,rfl,h2,r2⟩,zr hB 5 rfl,zr hB 6 rfl,zr hB 7 rfl,zr hB 8 rfl,zr hB 9 rfl,by simp[RepNL]⟩
theorem oper_ne {st:PS} {lv:Int} {z:Opr} (h:st.oper lv=some z):st.next.ts.length < st.ts.length:=by
 cases e:st.ts with
 | nil =>
  unfold PS.oper at h;rw[e] at h;simp[hdT,tkZ] at h
 | cons t r=>simp[PS.next,e]
theorem takeO_le (st:PS) (lv:Int):(st.takeO lv).2.ts.length≤st.ts.length:=by
 unfold PS.takeO
 split
 ·rename_i h;exact Nat.le_of_lt (oper_ne h)
 ·exact Nat.le_refl _
end
section
theorem fail_ts (st:PS) (len:Nat) (c:Int):(st.fail len c).ts = []:=by unfold PS.fail;split <;> rfl
theorem enter_le (st:PS) (len:Nat):(st.enter len).ts.length≤st.ts.length:=by
 unfold PS.enter
 split
 ·rw[fail_ts];exact Nat.zero_le _
 ·exact Nat.le_refl _
end
section
theorem next_le (st:PS):st.next.ts.length≤st.ts.length:=by simp[PS.next]
theorem next_lt_of {st:PS} (h:st.ts≠[]):st.next.ts.length < st.ts.length:=by
 cases e:st.ts with
 | nil=>exact absurd e h
 | cons t r=>simp[PS.next,e]
theorem fail_le (st:PS) (len:Nat) (c:Int):(st.fail len c).ts.length≤st.ts.length:=by rw[fail_ts];exact Nat.zero_le _
theorem word_le (st:PS) (len:Nat) (s:ByteArray):(st.word len s).ts.length≤st.ts.length:=by
 unfold PS.word
 split
 ·exact next_le _
 ·exact fail_le _ _ _
theorem psign_le (st:PS) (len:Nat) (s:ByteArray):(st.sign len s).ts.length≤st.ts.length:=by
 unfold PS.sign
 split
 ·exact next_le _
 ·exact fail_le _ _ _
theorem name_le (st:PS) (len:Nat):(st.name len).2.ts.length≤st.ts.length:=by
 unfold PS.name
 split
 ·exact next_le _
 ·exact fail_le _ _ _
theorem isW_ne {st:PS} {s:ByteArray} (h:st.isW s=true):st.ts≠[]:=by
 intro e;unfold PS.isW isT at h;rw[e] at h;exact absurd h (by simp[hdT,tkZ])
theorem word_lt {st:PS} (len:Nat) (s:ByteArray) (h:st.ts≠[]):(st.word len s).ts.length < st.ts.length:=by
 unfold PS.word
 split
 ·exact next_lt_of h
 ·rw[fail_ts];exact List.length_pos_iff.2 h
abbrev Shorter (r:Rdr):Prop:=∀ s,(r s).2.ts.length≤s.ts.length
theorem more_le {len:Nat} {ex:Rdr} (h:Shorter ex):∀ (f:Nat) (acc:List PN) (st:PS),(moreP len ex f acc st).2.ts.length≤st.ts.length
 | 0,acc,st=>Nat.le_refl _
 | f+1,acc,st=>by
  rw[moreP];have h1:=(takeS_len st ⟨#[44]⟩).1;cases e:st.takeS ⟨#[44]⟩ with
  | mk b s1 =>
   rw[e] at h1;cases b
   ·exact h1
   ·exact Nat.le_trans (more_le h f _ _) (Nat.le_trans (h s1) h1)
theorem ops_le {len:Nat} {ex:Rdr} (h:Shorter ex) (f:Nat) (c:ByteArray) (st:PS):(opsP len ex f c st).2.ts.length≤st.ts.length:=by
 unfold opsP;have h1:=(takeS_len st c).1;cases e:st.takeS c with
 | mk b s1 =>
  rw[e] at h1;cases b
  ·exact Nat.le_trans (psign_le _ _ _) (Nat.le_trans (more_le h f _ _) (Nat.le_trans (h s1) h1))
  ·exact h1
theorem lit_le (len:Nat):Shorter (litP len):=by
 intro st;unfold litP
 split
 ·exact next_le _
 split
 ·exact next_le _
 split
 ·exact next_le _
 split
 ·exact next_le _
 ·exact fail_le _ _ _
theorem list_le {len:Nat} {ex:Rdr} (h:Shorter ex) (f:Nat):Shorter (listP len ex f):=fun st =>
 Nat.le_trans (ops_le h f _ _) (Nat.le_trans (psign_le _ _ _) (enter_le _ _))
theorem call_le {len:Nat} {ex:Rdr} (h:Shorter ex) (f:Nat):Shorter (callP len ex f):=fun st =>
 Nat.le_trans (ops_le h f _ _) (Nat.le_trans (psign_le _ _ _) (Nat.le_trans (name_le _ _) (enter_le _ _)))
theorem inBr_le {len:Nat} {ex:Rdr} (h:Shorter ex) (c:ByteArray):Shorter (inBrP len ex c):=fun st =>
 Nat.le_trans (psign_le _ _ _) (Nat.le_trans (h _) (Nat.le_trans (next_le _) (enter_le _ _)))
theorem sgl_le {len:Nat} {ex:Rdr} (h:Shorter ex) (f:Nat):Shorter (sglP len ex f):=by
 intro st;unfold sglP
 split
 ·exact inBr_le h _ _
 split
 ·exact list_le h _ _
 split
 ·exact next_le _
 split
 ·exact call_le h _ _
 ·exact lit_le _ _
theorem ixLoop_le {len:Nat} {ex:Rdr} (h:Shorter ex):∀ (f:Nat) (n:PN) (st:PS),(ixLoopP len ex f n st).2.ts.length≤st.ts.length
 | 0,n,st=>Nat.le_refl _
 | f+1,n,st=>by
  rw[ixLoopP];cases st.oper 7 with
  | none=>exact Nat.le_refl _
  | some o=>exact Nat.le_trans (ixLoop_le h f _ _) (inBr_le h _ _)
theorem idx_le {len:Nat} {ex:Rdr} (h:Shorter ex) (f:Nat):Shorter (idxP len ex f):=fun st =>
 Nat.le_trans (ixLoop_le h f _ _) (sgl_le h f st)
theorem sgn_le {len:Nat} {sg ex:Rdr} (hs:Shorter sg) (h:Shorter ex) (f:Nat):Shorter (sgnP len sg ex f):=by
 intro st;unfold sgnP;cases st.oper 6 with
 | none=>exact idx_le h f st
 | some o=>exact Nat.le_trans (hs _) (Nat.le_trans (next_le _) (enter_le _ _))
theorem loop_le {lv:Int} {sub:Rdr} (h:Shorter sub):∀ (f:Nat) (n:PN) (st:PS),(loopP lv sub f n st).2.ts.length≤st.ts.length
 | 0,n,st=>Nat.le_refl _
 | f+1,n,st=>by
  rw[loopP];have h1:=takeO_le st lv;cases e:st.takeO lv with
  | mk b s1 =>
   rw[e] at h1;cases b
   ·exact h1
   ·exact Nat.le_trans (loop_le h f _ _) (Nat.le_trans (h s1) h1)
theorem lev_le {lv:Int} {sub:Rdr} (h:Shorter sub) (f:Nat):Shorter (levP lv sub f):=fun st=>Nat.le_trans (loop_le h f _ _) (h st)
theorem cmp_le {sub:Rdr} (h:Shorter sub):Shorter (cmpP sub):=by
 intro st;unfold cmpP;have h1:=takeO_le (sub st).2 3;cases e:(sub st).2.takeO 3 with
 | mk b s1 =>
  rw[e] at h1;cases b
  ·exact Nat.le_trans h1 (h st)
  ·exact Nat.le_trans (h s1) (Nat.le_trans h1 (h st))
theorem prd_le {sg:Rdr} (h:Shorter sg) (f:Nat):Shorter (prdP sg f):=lev_le h f
theorem sum_le {sg:Rdr} (h:Shorter sg) (f:Nat):Shorter (sumP sg f):=lev_le (prd_le h f) f
theorem bot_le {sg:Rdr} (h:Shorter sg) (f:Nat):Shorter (botP sg f):=lev_le (cmp_le (sum_le h f)) f
theorem or_le {sg:Rdr} (h:Shorter sg) (f:Nat):Shorter (orP sg f):=lev_le (bot_le h f) f
theorem both_le (len:Nat):∀ f,Shorter (bothP len f).1∧Shorter (bothP len f).2
 | 0=>⟨fun _=>Nat.le_refl _,fun _=>Nat.le_refl _⟩
 | f+1=>by
  obtain⟨h1,h2⟩:=both_le len f;rw[bothP];exact⟨sgn_le h1 h2 _,or_le (sgn_le h1 h2 _) _⟩
theorem ex_le (len f:Nat):Shorter (exP len f):=(both_le len f).2
end
section
def ofExP (len:Nat) (ex:Rdr) (k:Int) (st:PS):PN × PS:=(⟨k,0,zE,0,[(ex st).1]⟩,(ex st).2.sign len ⟨#[59]⟩)
def plainP (len:Nat) (k:Int) (st:PS):PN × PS:=(⟨k,0,zE,0,[]⟩,st.sign len ⟨#[59]⟩)
def answerP (len:Nat) (ex:Rdr) (st:PS):PN × PS:=if st.isS ⟨#[59]⟩ then plainP len 7 st else ofExP len ex 7 st
def namedP (len:Nat) (ex:Rdr) (k:Int) (st:PS):PN × PS :=
 (⟨k,0,(st.name len).1,0,(ofExP len ex k ((st.name len).2.sign len ⟨#[61]⟩)).1.l⟩,(ofExP len ex k ((st.name len).2.sign len ⟨#[61]⟩)).2)
def PS.isSet (st:PS):Bool:=((hdT st.ts 0).k == 1) && isT (hdT st.ts 1) 6 ⟨#[61]⟩
def PS.stop (st:PS):Bool:=((st.ts.length:Int) == 0) || st.isS ⟨#[125]⟩
def blkLoop (sm:Rdr):Nat→List PN→PS→List PN × PS
 | 0,acc,st=>(acc,st)
 | f+1,acc,st=>if st.stop then (acc,st) else blkLoop sm f (acc++[(sm st).1]) (sm st).2
def blkP (len:Nat) (sm:Rdr) (f:Nat) (st:PS):PN × PS :=
 if st.isS ⟨#[123]⟩ then (⟨10,0,zE,0,(blkLoop sm f [] (st.enter len).next).1⟩,((blkLoop sm f [] (st.enter len).next).2.sign len ⟨#[125]⟩).leave) else (⟨10,0,zE,0,[]⟩,st.fail len 10)
def choP (ex bl ot:Rdr) (st:PS):PN × PS :=
 if (bl (ex st).2).2.isW ⟨#[101,108,115,101]⟩ then (⟨3,0,zE,0,[(ex st).1,(bl (ex st).2).1,(ot (bl (ex st).2).2.next).1]⟩,(ot (bl (ex st).2).2.next).2)
 else (⟨3,0,zE,0,[(ex st).1,(bl (ex st).2).1]⟩,(bl (ex st).2).2)
def othP (ch bl:Rdr) (st:PS):PN × PS :=
 if st.isW ⟨#[105,102]⟩ then (⟨10,0,zE,0,[(ch st.next).1]⟩,(ch st.next).2) else bl st
def whiP (ex bl:Rdr) (st:PS):PN × PS:=(⟨4,0,zE,0,[(ex st).1,(bl (ex st).2).1]⟩,(bl (ex st).2).2)
def stmP (len:Nat) (ex bl ch:Rdr) (st:PS):PN × PS :=
 if st.isW ⟨#[108,101,116]⟩ then namedP len ex 1 st.next else
 if st.isSet then namedP len ex 2 st else
 if st.isW ⟨#[105,102]⟩ then ch st.next else
 if st.isW ⟨#[119,104,105,108,101]⟩ then whiP ex bl st.next else
 if st.isW ⟨#[98,114,101,97,107]⟩ then plainP len 5 st.next else
 if st.isW ⟨#[99,111,110,116,105,110,117,101]⟩ then plainP len 6 st.next else
 if st.isW ⟨#[114,101,116,117,114,110]⟩ then answerP len ex st.next else
 if st.isW ⟨#[112,114,105,110,116]⟩ then ofExP len ex 8 st.next else ofExP len ex 9 st
def stsP (len fe:Nat):Nat→Rdr × Rdr × Rdr
 | 0=>(fun st=>(nodeZ,st),fun st=>(nodeZ,st),fun st=>(nodeZ,st))
 | f+1=>(stmP len (exP len fe) (stsP len fe f).2.1 (stsP len fe f).2.2,blkP len (stsP len fe f).1 (f+1),choP (exP len fe) (blkP len (stsP len fe f).1 (f+1)) (othP (stsP len fe f).2.2 (stsP len fe f).2.1))
structure PFn where
 nm:ByteArray
 ps:List ByteArray
 bd:PN
def parLoop (len:Nat):Nat→List ByteArray→PS→List ByteArray × PS
 | 0,acc,st=>(acc,st)
 | f+1,acc,st=>if st.isS ⟨#[44]⟩ then parLoop len f (acc++[(st.next.name len).1]) (st.next.name len).2 else (acc,st)
def parP (len f:Nat) (st:PS):List ByteArray × PS :=
 if st.isS ⟨#[41]⟩ then ([],st.next) else ((parLoop len f [(st.name len).1] (st.name len).2).1,(parLoop len f [(st.name len).1] (st.name len).2).2.sign len ⟨#[41]⟩)
def funA (len:Nat) (st:PS):ByteArray × PS:=(st.word len ⟨#[102,110]⟩).name len
def funB (len f:Nat) (st:PS):List ByteArray × PS:=parP len f ((funA len st).2.sign len ⟨#[40]⟩)
def funP (len:Nat) (bl:Rdr) (f:Nat) (st:PS):PFn × PS:=(⟨(funA len st).1,(funB len f st).1,(bl (funB len f st).2).1⟩,(bl (funB len f st).2).2)
def funsP (len:Nat) (bl:Rdr) (f:Nat):Nat→List PFn→PS→List PFn × PS
 | 0,acc,st=>(acc,st)
 | j+1,acc,st=>if ((st.ts.length:Int) == 0) then (acc,st) else funsP len bl f j (acc++[(funP len bl f st).1]) (funP len bl f st).2
theorem sign_lt_of {s:PS} {n:Nat} (len:Nat) (c:ByteArray) (h:s.ts.length≤n) (hn:0 < n):(s.sign len c).ts.length < n:=by
 unfold PS.sign
 split
 ·rename_i hb;exact Nat.lt_of_lt_of_le (next_lt hb) h
 ·rw[fail_ts];exact hn
theorem ofEx_lt {len:Nat} {ex:Rdr} (h:Shorter ex) (k:Int) {st:PS} {n:Nat} (hs:st.ts.length≤n) (hn:0 < n):(ofExP len ex k st).2.ts.length < n :=
 sign_lt_of len _ (Nat.le_trans (h st) hs) hn
theorem ofEx_le {len:Nat} {ex:Rdr} (h:Shorter ex) (k:Int):Shorter (ofExP len ex k):=fun st=>Nat.le_trans (psign_le _ _ _) (h st)
theorem named_lt {len:Nat} {ex:Rdr} (h:Shorter ex) (k:Int) {st:PS} {n:Nat} (hs:st.ts.length≤n) (hn:0 < n):(namedP len ex k st).2.ts.length < n :=
 ofEx_lt h k (Nat.le_trans (psign_le _ _ _) (Nat.le_trans (name_le _ _) hs)) hn
theorem plain_lt {len:Nat} (k:Int) {st:PS} {n:Nat} (hs:st.ts.length≤n) (hn:0 < n):(plainP len k st).2.ts.length < n:=sign_lt_of len _ hs hn
theorem answer_lt {len:Nat} {ex:Rdr} (h:Shorter ex) {st:PS} {n:Nat} (hs:st.ts.length≤n) (hn:0 < n):(answerP len ex st).2.ts.length < n:=by
 unfold answerP
 split
 ·exact plain_lt 7 hs hn
 ·exact ofEx_lt h 7 hs hn
theorem blkLoop_le {sm:Rdr} (h:Shorter sm):∀ (f:Nat) (acc:List PN) (st:PS),(blkLoop sm f acc st).2.ts.length≤st.ts.length
 | 0,acc,st=>Nat.le_refl _
 | f+1,acc,st=>by
  rw[blkLoop]
  split
  ·exact Nat.le_refl _
  ·exact Nat.le_trans (blkLoop_le h f _ _) (h st)
theorem blk_le {len:Nat} {sm:Rdr} (h:Shorter sm) (f:Nat):Shorter (blkP len sm f):=by
 intro st;unfold blkP
 split
 ·exact Nat.le_trans (psign_le _ _ _) (Nat.le_trans (blkLoop_le h f _ _) (Nat.le_trans (next_le _) (enter_le _ _)))
 ·exact fail_le _ _ _
theorem cho_le {ex bl ot:Rdr} (h:Shorter ex) (hb:Shorter bl) (ho:Shorter ot):Shorter (choP ex bl ot):=by
 intro st;unfold choP
 split
 ·exact Nat.le_trans (ho _) (Nat.le_trans (next_le _) (Nat.le_trans (hb _) (h st)))
 ·exact Nat.le_trans (hb _) (h st)
theorem oth_le {ch bl:Rdr} (h:Shorter ch) (hb:Shorter bl):Shorter (othP ch bl):=by
 intro st;unfold othP
 split
 ·exact Nat.le_trans (h _) (next_le _)
 ·exact hb st
theorem whi_le {ex bl:Rdr} (h:Shorter ex) (hb:Shorter bl):Shorter (whiP ex bl):=fun st=>Nat.le_trans (hb _) (h st)
theorem stm_lt {len:Nat} {ex bl ch:Rdr} (h:Shorter ex) (hb:Shorter bl) (hc:Shorter ch) {st:PS} (hne:st.ts≠[]):(stmP len ex bl ch st).2.ts.length < st.ts.length:=by
 have h0:=List.length_pos_iff.2 hne;have h1:=next_lt_of hne;unfold stmP
 split
 ·exact named_lt h 1 (next_le _) h0
 split
 ·exact named_lt h 2 (Nat.le_refl _) h0
 split
 ·exact Nat.lt_of_le_of_lt (hc _) h1
 split
 ·exact Nat.lt_of_le_of_lt (whi_le h hb _) h1
 split
 ·exact plain_lt 5 (next_le _) h0
 split
 ·exact plain_lt 6 (next_le _) h0
 split
 ·exact answer_lt h (next_le _) h0
 split
 ·exact ofEx_lt h 8 (next_le _) h0
 ·exact ofEx_lt h 9 (Nat.le_refl _) h0
theorem stm_le {len:Nat} {ex bl ch:Rdr} (h:Shorter ex) (hb:Shorter bl) (hc:Shorter ch):Shorter (stmP len ex bl ch):=by
 intro st;by_cases hne:st.ts = []
 ·have hW:∀ s,st.isW s=false:=fun s=>by cases e:st.isW s with | false=>rfl | true=>exact absurd hne (isW_ne e)
  have hS:st.isSet=false:=by unfold PS.isSet;rw[hne];simp[hdT,tkZ]
  unfold stmP;rw[hW,hS,hW,hW,hW,hW,hW,hW];simp only[Bool.false_eq_true,if_false];exact ofEx_le h 9 st
 ·exact Nat.le_of_lt (stm_lt h hb hc hne)
theorem sts_le (len fe:Nat):∀ f,Shorter (stsP len fe f).1∧Shorter (stsP len fe f).2.1∧Shorter (stsP len fe f).2.2
 | 0=>⟨fun _=>Nat.le_refl _,fun _=>Nat.le_refl _,fun _=>Nat.le_refl _⟩
 | f+1=>by
  obtain⟨h1,h2,h3⟩:=sts_le len fe f;rw[stsP];exact⟨stm_le (ex_le len fe) h2 h3,blk_le h1 _,cho_le (ex_le len fe) (blk_le h1 _) (oth_le h3 h2)⟩
theorem parLoop_le (len:Nat):∀ (f:Nat) (acc:List ByteArray) (st:PS),(parLoop len f acc st).2.ts.length≤st.ts.length
 | 0,acc,st=>Nat.le_refl _
 | f+1,acc,st=>by
  rw[parLoop]
  split
  ·exact Nat.le_trans (parLoop_le len f _ _) (Nat.le_trans (name_le _ _) (next_le _))
  ·exact Nat.le_refl _
theorem par_le (len f:Nat) (st:PS):(parP len f st).2.ts.length≤st.ts.length:=by
 unfold parP
 split
 ·exact next_le _
 ·exact Nat.le_trans (psign_le _ _ _) (Nat.le_trans (parLoop_le _ _ _ _) (name_le _ _))
theorem funA_lt {len:Nat} {st:PS} (hne:st.ts≠[]):(funA len st).2.ts.length < st.ts.length:=Nat.lt_of_le_of_lt (name_le _ _) (word_lt len _ hne)
theorem funB_lt {len f:Nat} {st:PS} (hne:st.ts≠[]):(funB len f st).2.ts.length < st.ts.length:=Nat.lt_of_le_of_lt (Nat.le_trans (par_le _ _ _) (psign_le _ _ _)) (funA_lt hne)
theorem fun_lt {len f:Nat} {bl:Rdr} (hb:Shorter bl) {st:PS} (hne:st.ts≠[]):(funP len bl f st).2.ts.length < st.ts.length:=Nat.lt_of_le_of_lt (hb _) (funB_lt hne)
end
section
structure Nv (st:PS):Prop where
 rng:st.e=0→0≤st.op∧st.op≤24
 nil:st.e≠0→st.ts = []
structure Kp (st r:PS):Prop where
 bad:st.e≠0→r.e=st.e∧r.pl=st.pl
 ok:r.e=0→st.e=0∧r.op=st.op
 nil:r.e≠0→r.ts = []
theorem Kp.nv {st r:PS} (h:Kp st r) (n:Nv st):Nv r:=⟨fun e=>by rw[(h.ok e).2];exact n.rng (h.ok e).1,h.nil⟩
theorem Kp.refl {st:PS} (n:Nv st):Kp st st:=⟨fun _=>⟨rfl,rfl⟩,fun e=>⟨e,rfl⟩,n.nil⟩
theorem Kp.trans {a b c:PS} (h:Kp a b) (k:Kp b c):Kp a c :=
 ⟨fun e=>by
  obtain⟨h1,h2⟩:=h.bad e;have h3:=k.bad (by rw[h1];exact e);exact⟨h3.1.trans h1,h3.2.trans h2⟩,fun e=>⟨(h.ok (k.ok e).1).1,(k.ok e).2.trans (h.ok (k.ok e).1).2⟩,k.nil⟩
theorem fail_kp (st:PS) (len:Nat) {c:Int} (hc:c≠0):Kp st (st.fail len c):=by
 unfold PS.fail
 split
 ·rename_i h
  exact⟨fun e=>absurd h e,fun e=>absurd e hc,fun _=>rfl⟩
 ·rename_i h
  exact⟨fun _=>⟨rfl,rfl⟩,fun e=>absurd e h,fun _=>rfl⟩
theorem next_kp {st:PS} (n:Nv st):Kp st st.next :=
 ⟨fun _=>⟨rfl,rfl⟩,fun e=>⟨e,rfl⟩,fun e=>by show st.ts.tail = [];rw[n.nil e];rfl⟩
theorem psign_kp {st:PS} (n:Nv st) (len:Nat) (s:ByteArray):Kp st (st.sign len s):=by
 unfold PS.sign
 split
 ·exact next_kp n
 ·exact fail_kp _ _ (by decide)
theorem pword_kp {st:PS} (n:Nv st) (len:Nat) (s:ByteArray):Kp st (st.word len s):=by
 unfold PS.word
 split
 ·exact next_kp n
 ·exact fail_kp _ _ (by decide)
theorem name_kp {st:PS} (n:Nv st) (len:Nat):Kp st (st.name len).2:=by
 unfold PS.name
 split
 ·exact next_kp n
 ·exact fail_kp _ _ (by decide)
theorem takeS_kp {st:PS} (n:Nv st) (s:ByteArray):Kp st (st.takeS s).2:=by
 unfold PS.takeS
 split
 ·exact next_kp n
 ·exact Kp.refl n
theorem takeO_kp {st:PS} (n:Nv st) (lv:Int):Kp st (st.takeO lv).2:=by
 unfold PS.takeO;cases st.oper lv with
 | none=>exact Kp.refl n
 | some o=>exact next_kp n
theorem enter_nv {st:PS} (n:Nv st) (len:Nat):Nv (st.enter len):=by
 unfold PS.enter;by_cases h0:st.e=0
 ·obtain⟨h1,h2⟩:=n.rng h0
  split
  ·exact⟨fun e=>absurd e (by unfold PS.fail PS.up;simp[h0]),fun _=>fail_ts _ _ _⟩
  ·rename_i h
   refine⟨fun _ => ?_,fun e=>absurd h0 e⟩;have:st.up.op=wrap64 (st.op+1):=rfl;rw[this];unfold wrap64 at *;omega
 ·split
  ·exact⟨fun e=>absurd e (by unfold PS.fail PS.up;simp[h0]),fun _=>fail_ts _ _ _⟩
  ·exact⟨fun e=>absurd e h0,fun _=>n.nil h0⟩
theorem enter_bad {st:PS} (len:Nat) (h0:st.e≠0):(st.enter len).e=st.e∧(st.enter len).pl=st.pl:=by
 unfold PS.enter
 split
 ·unfold PS.fail PS.up
  simp[h0]
 ·exact⟨rfl,rfl⟩
theorem enter_ok {st:PS} {len:Nat} (h:(st.enter len).e=0):st.e=0∧st.enter len=st.up:=by
 by_cases h0:st.e=0
 ·refine⟨h0,?_⟩
  unfold PS.enter at *
  split
  ·rename_i h2
   rw[if_pos h2] at h;unfold PS.fail PS.up at h;simp[h0] at h
  ·rfl
 ·rw[(enter_bad len h0).1] at h
  exact absurd h h0
theorem br_kp {st r:PS} (n:Nv st) {len:Nat} (h:Kp (st.enter len) r):Kp st r.leave:=by
 refine⟨fun e => ?_,fun e => ?_,fun e=>h.nil e⟩
 ·obtain⟨h1,h2⟩:=enter_bad len e
  obtain⟨h3,h4⟩:=h.bad (by rw[h1];exact e);exact⟨h3.trans h1,h4.trans h2⟩
 ·have h1:=h.ok e
  obtain⟨h2,h3⟩:=enter_ok h1.1;obtain⟨h4,h5⟩:=n.rng h2;refine⟨h2,?_⟩;show wrap64 (r.op - 1)=_;rw[h1.2,h3];show wrap64 (wrap64 (st.op+1) - 1)=_;unfold wrap64;omega
abbrev GoodR (f:Rdr):Prop:=∀ st,Nv st→Kp st (f st).2
theorem more_kp {len:Nat} {ex:Rdr} (h:GoodR ex):∀ (f:Nat) (acc:List PN) (st:PS),Nv st→Kp st (moreP len ex f acc st).2
 | 0,acc,st,n=>Kp.refl n
 | f+1,acc,st,n=>by
  rw[moreP];have h1:=takeS_kp n ⟨#[44]⟩;cases e:st.takeS ⟨#[44]⟩ with
  | mk b s1 =>
   rw[e] at h1;cases b
   ·exact h1
   ·have h2:=h s1 (h1.nv n)
    exact h1.trans (h2.trans (more_kp h f _ _ (h2.nv (h1.nv n))))
theorem ops_kp {len:Nat} {ex:Rdr} (h:GoodR ex) (f:Nat) (c:ByteArray) (st:PS) (n:Nv st):Kp st (opsP len ex f c st).2:=by
 unfold opsP;have h1:=takeS_kp n c;cases e:st.takeS c with
 | mk b s1 =>
  rw[e] at h1;cases b
  ·have h2:=h s1 (h1.nv n)
   have n2:=h2.nv (h1.nv n);have h3:=more_kp (len:=len) h f [(ex s1).1] _ n2;exact h1.trans (h2.trans (h3.trans (psign_kp (h3.nv n2) len c)))
  ·exact h1
theorem lit_kp (len:Nat):GoodR (litP len):=by
 intro st n;unfold litP
 split
 ·exact next_kp n
 split
 ·exact next_kp n
 split
 ·exact next_kp n
 split
 ·exact next_kp n
 ·exact fail_kp _ _ (by decide)
theorem list_kp {len:Nat} {ex:Rdr} (h:GoodR ex) (f:Nat):GoodR (listP len ex f):=fun st n =>
 br_kp n (by
  have n1:=enter_nv n len;have h1:=psign_kp n1 len ⟨#[91]⟩;exact h1.trans (ops_kp h f _ _ (h1.nv n1)))
theorem call_kp {len:Nat} {ex:Rdr} (h:GoodR ex) (f:Nat):GoodR (callP len ex f):=fun st n =>
 br_kp n (by
  have n1:=enter_nv n len;have h0:=name_kp n1 len;have n2:=h0.nv n1;have h1:=psign_kp n2 len ⟨#[40]⟩;exact h0.trans (h1.trans (ops_kp h f _ _ (h1.nv n2))))
theorem inBr_kp {len:Nat} {ex:Rdr} (h:GoodR ex) (c:ByteArray):GoodR (inBrP len ex c):=fun st n =>
 br_kp n (by
  have n1:=enter_nv n len;have h0:=next_kp n1;have n2:=h0.nv n1;have h1:=h _ n2;exact h0.trans (h1.trans (psign_kp (h1.nv n2) len c)))
theorem sgl_kp {len:Nat} {ex:Rdr} (h:GoodR ex) (f:Nat):GoodR (sglP len ex f):=by
 intro st n;unfold sglP
 split
 ·exact inBr_kp h _ _ n
 split
 ·exact list_kp h _ _ n
 split
 ·exact next_kp n
 split
 ·exact call_kp h _ _ n
 ·exact lit_kp _ _ n
theorem ixLoop_kp {len:Nat} {ex:Rdr} (h:GoodR ex):∀ (f:Nat) (p:PN) (st:PS),Nv st→Kp st (ixLoopP len ex f p st).2
 | 0,p,st,n=>Kp.refl n
 | f+1,p,st,n=>by
  rw[ixLoopP];cases st.oper 7 with
  | none=>exact Kp.refl n
  | some o =>
   have h1:=inBr_kp (len:=len) h ⟨#[93]⟩ st n;exact h1.trans (ixLoop_kp h f _ _ (h1.nv n))
theorem idx_kp {len:Nat} {ex:Rdr} (h:GoodR ex) (f:Nat):GoodR (idxP len ex f):=fun st n =>
 (sgl_kp h f st n).trans (ixLoop_kp h f _ _ ((sgl_kp h f st n).nv n))
theorem sgn_kp {len:Nat} {sg ex:Rdr} (hs:GoodR sg) (h:GoodR ex) (f:Nat):GoodR (sgnP len sg ex f):=by
 intro st n;unfold sgnP;cases st.oper 6 with
 | none=>exact idx_kp h f st n
 | some o =>
  refine br_kp (len:=len) n ?_;have n1:=enter_nv n len;have h0:=next_kp n1;exact h0.trans (hs _ (h0.nv n1))
theorem loop_kp {lv:Int} {sub:Rdr} (h:GoodR sub):∀ (f:Nat) (p:PN) (st:PS),Nv st→Kp st (loopP lv sub f p st).2
 | 0,p,st,n=>Kp.refl n
 | f+1,p,st,n=>by
  rw[loopP];have h1:=takeO_kp n lv;cases e:st.takeO lv with
  | mk b s1 =>
   rw[e] at h1;cases b
   ·exact h1
   ·have h2:=h s1 (h1.nv n)
    exact h1.trans (h2.trans (loop_kp h f _ _ (h2.nv (h1.nv n))))
theorem lev_kp {lv:Int} {sub:Rdr} (h:GoodR sub) (f:Nat):GoodR (levP lv sub f):=fun st n=>(h st n).trans (loop_kp h f _ _ ((h st n).nv n))
theorem cmp_kp {sub:Rdr} (h:GoodR sub):GoodR (cmpP sub):=by
 intro st n;unfold cmpP;have h0:=h st n;have n0:=h0.nv n;have h1:=takeO_kp n0 3;cases e:(sub st).2.takeO 3 with
 | mk b s1 =>
  rw[e] at h1;cases b
  ·exact h0.trans h1
  ·exact h0.trans (h1.trans (h s1 (h1.nv n0)))
theorem prd_kp {sg:Rdr} (h:GoodR sg) (f:Nat):GoodR (prdP sg f):=lev_kp h f
theorem sum_kp {sg:Rdr} (h:GoodR sg) (f:Nat):GoodR (sumP sg f):=lev_kp (prd_kp h f) f
theorem bot_kp {sg:Rdr} (h:GoodR sg) (f:Nat):GoodR (botP sg f):=lev_kp (cmp_kp (sum_kp h f)) f
theorem or_kp {sg:Rdr} (h:GoodR sg) (f:Nat):GoodR (orP sg f):=lev_kp (bot_kp h f) f
theorem both_kp (len:Nat):∀ f,GoodR (bothP len f).1∧GoodR (bothP len f).2
 | 0=>⟨fun _ n=>Kp.refl n,fun _ n=>Kp.refl n⟩
 | f+1=>by
  obtain⟨h1,h2⟩:=both_kp len f;rw[bothP];exact⟨sgn_kp h1 h2 _,or_kp (sgn_kp h1 h2 _) _⟩
theorem ex_kp (len f:Nat):GoodR (exP len f):=(both_kp len f).2
end
end Go.Proofs.YtjnpehohialmbaaGreat
