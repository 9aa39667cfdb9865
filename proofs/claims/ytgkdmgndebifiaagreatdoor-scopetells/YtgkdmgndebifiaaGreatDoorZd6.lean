/- What operators of a level join,from left to right: one text for each level. · Indexes behind an expression,from left to right: what holds of the loop. · What is read is no longer than what there was. · Reading statements and functions,as plain functions;what is read is shorter than what there was. -/
import Derived.Test.YtgkdmgndebifiaaGreatDoorZd5
set_option linter.unusedSimpArgs false
set_option linter.unusedVariables false
set_option maxRecDepth 10000
namespace Go.Proofs.YtgkdmgndebifiaaGreatDoor
open Go.RowKit
theorem step_call_two {P:Program} {w:World} {ops:Array Oper} {o:Oper} {a:Act} {K:Act → World → Prop} {Q:Exit → Act → World → Prop} {E:Prop}
  (hg:o.guard = none) (f:FuncId) (x y:Operand) (t u:TypeId) (hop:o.op = Op.call { callee:=Callee.value (.func f),args:=#[x,y],argTypes:=#[t,u] })
  (v v':Value) (hx:a.eval x = v) (hy:a.eval y = v') (hf:(callFunc f #[v,v']).run P w = .ok (.enter f #[v,v']) w) (hK:Calls P f #[v,v'] w fun e w' => ∃ r,e = .returned r ∧ K (a.put o.dst r) w') :
  if Region.wanted o (yielded ops a.tmps) = true then Oper.wp P o a w K Q else E:=by
 have hw:Region.wanted o (yielded ops a.tmps) = true:=by simp [Region.wanted,hg]
 rw [if_pos hw]
 have he:a.eval (.func f) = .func (.func f) #[] #[]:=rfl
 unfold Oper.wp
 have hrun:(execOp a.eval o).run P w = .ok (.enter f #[v,v']) w:=by
  simp [execOp,hop,resolve,invoke,hx,hy,he,Result.andThen,Deferred.ofValue,hf]
 rw [hrun,Oper.upon_enter]
 refine hK.mono ?_
 rintro e w' ⟨r,rfl,h⟩
 exact h
theorem enterNode (v u:Value) (w:World):(callFunc 118 #[v,u]).run Tryz.prog w = .ok (.enter 118 #[v,u]) w:=by kernel_rfl
theorem enterSigned (v:Value) (w:World):(callFunc 136 #[v]).run Tryz.prog w = .ok (.enter 136 #[v]) w:=by kernel_rfl
theorem enterProduct (v:Value) (w:World):(callFunc 134 #[v]).run Tryz.prog w = .ok (.enter 134 #[v]) w:=by kernel_rfl
theorem enterSum (v:Value) (w:World):(callFunc 131 #[v]).run Tryz.prog w = .ok (.enter 131 #[v]) w:=by kernel_rfl
theorem enterComparison (v:Value) (w:World):(callFunc 125 #[v]).run Tryz.prog w = .ok (.enter 125 #[v]) w:=by kernel_rfl
theorem enterBoth (v:Value) (w:World):(callFunc 116 #[v]).run Tryz.prog w = .ok (.enter 116 #[v]) w:=by kernel_rfl
theorem enterInBr (v u:Value) (w:World):(callFunc 148 #[v,u]).run Tryz.prog w = .ok (.enter 148 #[v,u]) w:=by kernel_rfl
theorem Gr.drew_of {g:Nat} {w w':World} (h:Gr g w.drew w'):Gr g w w':=⟨h.os,h.tape,h.output,h.size,h.block⟩
theorem pair_rep {W:World} {F:Nat → Prop} {B:Nat} {t:TypeId} {k o n k2 o2 n2:Int} {s s2:ByteArray} {l l2:List PN} {a a2:Option Addr} {cap cap2:Nat} (hB:W.heap[B]? = some (.cells #[.int .i64 k,.int .i64 o,.string s,.int .i64 n,.slice a l.length cap,.int .i64 k2,.int .i64 o2,.string s2,.int .i64 n2,.slice a2 l2.length cap2] t (0,0)))
  (hF:F B) (h1:l.length ≤ cap) (h2:l2.length ≤ cap2) (r1:RepNL W F l a) (r2:RepNL W F l2 a2):RepNL W F [⟨k,o,s,n,l⟩,⟨k2,o2,s2,n2,l2⟩] (some ⟨B,0,none⟩):=by
 rw [RepNL]
 refine ⟨B,0,_,_,_,_,_,rfl,hF,by rw [RepN];exact ⟨a,cap,rfl,h1,r1⟩,rowC hB 0 rfl,rowC hB 1 rfl,rowC hB 2 rfl,rowC hB 3 rfl,rowC hB 4 rfl,?_⟩
 rw [RepNL]
 exact ⟨B,5,_,_,_,_,_,rfl,hF,by rw [RepN];exact ⟨a2,cap2,rfl,h2,r2⟩,rowC hB 5 rfl,rowC hB 6 rfl,rowC hB 7 rfl,rowC hB 8 rfl,rowC hB 9 rfl,by simp [RepNL]⟩
structure LvI (lv:Int) (sb:Rdr) (g len:Nat) (w wr:World) (R:PN × PS) (b3 b4:Nat) (bb:Bool) (k o:Int) (s:ByteArray) (n:Int) (l:List PN) (a:Option Addr) (cap:Nat) (z:Opr) (stc:PS) (j:Nat):Prop where
 eq:R = if bb then loopP lv sb j (z.node [⟨k,o,s,n,l⟩,(sb stc).1]) (sb stc).2 else (⟨k,o,s,n,l⟩,stc)
 fuel:bb = true → stc.ts.length < j
 r2:wr.heap[w.heap.size]? = some (nodO 0 0 emptyB 0 (.slice none 0 0))
 r3:wr.heap[b3]? = some (nodO k o s n (.slice a l.length cap))
 r4:wr.heap[b4]? = some (oprO z)
 hc:l.length ≤ cap
 rep:RepNL wr (fun b => w.heap.size < b ∧ b < wr.heap.size ∧ b ≠ b3 ∧ b ≠ b4) l a
 h3:w.heap.size < b3
 h34:b3 < b4
 rs:Rs wr g len stc
 gr:Gr g w wr
theorem oper_ne {st:PS} {lv:Int} {z:Opr} (h:st.oper lv = some z):st.next.ts.length < st.ts.length:=by
 cases e:st.ts with
 | nil =>
  unfold PS.oper at h
  rw [e] at h
  simp [hdT,tkZ] at h
 | cons t r => simp [PS.next,e]
theorem takeO_le (st:PS) (lv:Int):(st.takeO lv).2.ts.length ≤ st.ts.length:=by
 unfold PS.takeO
 split
 ·rename_i h;exact Nat.le_of_lt (oper_ne h)
 ·exact Nat.le_refl _
theorem takeO_lt {st:PS} {lv:Int} (h:(st.takeO lv).1.isSome = true):(st.takeO lv).2.ts.length < st.ts.length:=by
 unfold PS.takeO at h ⊢
 split
 ·rename_i z h2;exact oper_ne h2
 ·rename_i h2;rw [h2] at h;cases h
theorem loop_eq (lv:Int) (sb:Rdr) (j:Nat) (p:PN) (st:PS):loopP lv sb (j + 1) p st = if (st.takeO lv).1.isSome then loopP lv sb j (((st.takeO lv).1.getD oprZ).node [p,(sb (st.takeO lv).2).1]) (sb (st.takeO lv).2).2 else (p,(st.takeO lv).2):=by
 rw [loopP]
 cases h:st.takeO lv with
 | mk x s => cases x <;> rfl
structure LvM (lv:Int) (sb:Rdr) (g len:Nat) (w W:World) (R:PN × PS) (b3:Nat) (k o:Int) (s:ByteArray) (n:Int) (l:List PN) (a:Option Addr) (cap:Nat) (st2:PS) (j:Nat):Prop where
 eq:R = loopP lv sb j ⟨k,o,s,n,l⟩ st2
 fuel:st2.ts.length < j
 r2:W.heap[w.heap.size]? = some (nodO 0 0 emptyB 0 (.slice none 0 0))
 r3:W.heap[b3]? = some (nodO k o s n (.slice a l.length cap))
 hc:l.length ≤ cap
 rep:RepNL W (fun b => w.heap.size < b ∧ b < W.heap.size ∧ b ≠ b3) l a
 h3:w.heap.size < b3
 rs:Rs W g len st2
 gr:Gr g w W
theorem LvM.of {lv:Int} {sb:Rdr} {g len:Nat} {w wr w3 w4:World} {R:PN × PS} {b3 b4:Nat} {k o:Int} {s:ByteArray} {n:Int} {l:List PN} {a:Option Addr} {cap:Nat} {z:Opr} {st0 stc st2:PS} {j:Nat} {k2 o2:Int} {s2:ByteArray} {n2:Int} {l2:List PN} {a2:Option Addr} {cap2:Nat} {t:TypeId}
  (hR:Rs w g len st0) (h:LvI lv sb g len w wr R b3 b4 true k o s n l a cap z stc j) (hq:R = loopP lv sb j (z.node [⟨k,o,s,n,l⟩,⟨k2,o2,s2,n2,l2⟩]) st2) (hl:st2.ts.length ≤ stc.ts.length) (X3:Gr g wr w3) (S3:St w3 g len st2) (hc2:l2.length ≤ cap2) (L3:RepNL w3 (Fr wr.heap.size w3.heap.size) l2 a2) (X4:Ext w3 w4)
  (RI:w4.heap[w3.heap.size]? = some (.cells #[.int .i64 k,.int .i64 o,.string s,.int .i64 n,.slice a l.length cap,.int .i64 k2,.int .i64 o2,.string s2,.int .i64 n2,.slice a2 l2.length cap2] t (0,0))) :
  LvM lv sb g len w (set5 w4 b3 z.k z.o emptyB 0 (.slice (some ⟨w3.heap.size,0,none⟩) 2 2)) R b3 z.k z.o emptyB 0 [⟨k,o,s,n,l⟩,⟨k2,o2,s2,n2,l2⟩] (some ⟨w3.heap.size,0,none⟩) 2 st2 j:=by
 have hg:g < w.heap.size:=hR.st.lt
 have h3:=h.h3
 have h34:=h.h34
 have hb4:b4 < wr.heap.size:=(Array.getElem?_eq_some_iff.1 h.r4).1
 have hlt:w3.heap.size < w4.heap.size:=(Array.getElem?_eq_some_iff.1 RI).1
 have X34:Gr g wr w4:=X3.trans (Gr.of X4)
 have hsz:=X3.size
 have G5:Gr g w (set5 w4 b3 z.k z.o emptyB 0 (.slice (some ⟨w3.heap.size,0,none⟩) 2 2)):=(h.gr.trans X34).set5 (by omega) _ _ _ _ _
 have S5:=(S3.ext X4).set5 (b:=b3) (by omega) z.k z.o emptyB 0 (.slice (some ⟨w3.heap.size,0,none⟩) 2 2)
 have Z5:=set5_size w4 b3 z.k z.o emptyB 0 (.slice (some ⟨w3.heap.size,0,none⟩) 2 2)
 have B5:∀ x,x ≠ b3 → (set5 w4 b3 z.k z.o emptyB 0 (.slice (some ⟨w3.heap.size,0,none⟩) 2 2)).heap[x]? = w4.heap[x]?:=fun x hx => set5_block hx _ _ _ _ _
 have R5:=set5_row (X34.row h.r3 (by omega)) z.k z.o emptyB 0 (.slice (some ⟨w3.heap.size,0,none⟩) 2 2)
 generalize set5 w4 b3 z.k z.o emptyB 0 (.slice (some ⟨w3.heap.size,0,none⟩) 2 2) = W at *
 have hr2:W.heap[w.heap.size]? = some (nodO 0 0 emptyB 0 (.slice none 0 0)):=(B5 _ (by omega)).trans (X34.row h.r2 (by omega))
 have hp1:RepNL W (fun b => w.heap.size < b ∧ b < W.heap.size ∧ b ≠ b3) l a:=RepNL.to (fun b hb => ⟨⟨hb.1,by omega,hb.2.2.1⟩,(B5 b hb.2.2.1).trans (X34.block b hb.2.1 (by omega))⟩) _ _ h.rep
 have hp2:RepNL W (fun b => w.heap.size < b ∧ b < W.heap.size ∧ b ≠ b3) l2 a2:=RepNL.to (fun b hb => by
  have h1:=hb.1
  have h2:=hb.2
  exact ⟨⟨by omega,by omega,by omega⟩,(B5 b (by omega)).trans (X4.block b hb.2)⟩) _ _ L3
 have hpr:=pair_rep (F:=fun b => w.heap.size < b ∧ b < W.heap.size ∧ b ≠ b3) ((B5 _ (by omega)).trans RI) ⟨by omega,by omega,by omega⟩ h.hc hc2 hp1 hp2
 have hfu:=h.fuel rfl
 exact ⟨hq,by omega,hr2,R5,Nat.le_refl _,hpr,h3,hR.go G5 S5,G5⟩
theorem LvM.head {lv:Int} {sb:Rdr} {g len:Nat} {w W w6:World} {R:PN × PS} {b3:Nat} {k o:Int} {s:ByteArray} {n:Int} {l:List PN} {a:Option Addr} {cap:Nat} {z:Opr} {st0 st2:PS} {j:Nat}
  (hR:Rs w g len st0) (h:LvM lv sb g len w W R b3 k o s n l a cap st2 (j + 1)) (X6:Gr g (W.alloc (oprO z)) w6) (S6:St w6 g len (st2.takeO lv).2) :
  LvI lv sb g len w (setO w6 W.heap.size ((st2.takeO lv).1.getD oprZ)) R b3 W.heap.size (st2.takeO lv).1.isSome k o s n l a cap ((st2.takeO lv).1.getD oprZ) (st2.takeO lv).2 j:=by
 have hg:g < w.heap.size:=hR.st.lt
 have h3:=h.h3
 have hb3:b3 < W.heap.size:=(Array.getElem?_eq_some_iff.1 h.r3).1
 have hf:=h.fuel
 have hs6:=X6.size
 rw [size_alloc] at hs6
 have hgs:=h.gr.size
 have GW:Gr g W w6:=(Gr.of (Ext.alloc _ _)).trans X6
 have G5:=(h.gr.trans GW).setO (b:=W.heap.size) hgs ((st2.takeO lv).1.getD oprZ)
 have S5:=S6.setO (b:=W.heap.size) (by omega) ((st2.takeO lv).1.getD oprZ)
 have B5:∀ x,x ≠ W.heap.size → (setO w6 W.heap.size ((st2.takeO lv).1.getD oprZ)).heap[x]? = w6.heap[x]?:=fun x hx => by
  rw [Below.heap_setCell _ _ _ _ hx,Below.heap_setCell _ _ _ _ hx,Below.heap_setCell _ _ _ _ hx,Below.heap_setCell _ _ _ _ hx]
 have Z5:(setO w6 W.heap.size ((st2.takeO lv).1.getD oprZ)).heap.size = w6.heap.size:=by simp [World.setCell]
 have R5:=setO_row (X6.row (Go.heap_alloc_new W _) (by omega)) ((st2.takeO lv).1.getD oprZ)
 have heq:=h.eq.trans (loop_eq _ _ _ _ _)
 have hlt:=takeO_lt (st:=st2) (lv:=lv)
 generalize setO w6 W.heap.size ((st2.takeO lv).1.getD oprZ) = V at *
 refine ⟨heq,fun hb => by have:=hlt hb;omega,(B5 _ (by omega)).trans (GW.row h.r2 (by omega)),(B5 _ (by omega)).trans (GW.row h.r3 (by omega)),R5,h.hc,RepNL.to (fun b hb => ?_) _ _ h.rep,h3,hb3,hR.go G5 S5,G5⟩
 have h1:=hb.1
 have h2:=hb.2.1
 exact ⟨⟨h1,by omega,hb.2.2,by omega⟩,(B5 b (by omega)).trans (GW.block b hb.2.1 (by omega))⟩
def b2n (b:Bool):Nat:=if b then 1 else 0
end Go.Proofs.YtgkdmgndebifiaaGreatDoor
namespace Go.Proofs.YtgkdmgndebifiaaGreatDoor
open Go.RowKit
def loopX (sb:Rdr):Nat → PN → PS → PN × PS
 | 0,n,st => (n,st)
 | f + 1,n,st => match st.oper 7 with
  | none => (n,st)
  | some o => loopX sb f (o.node [n,(sb st).1]) (sb st).2
theorem ix_loopX (len:Nat) (ex:Rdr):∀ (f:Nat) (n:PN) (st:PS),ixLoopP len ex f n st = loopX (inBrP len ex ⟨#[93]⟩) f n st
 | 0,n,st => rfl
 | f + 1,n,st => by
  rw [ixLoopP,loopX]
  cases st.oper 7 with
  | none => rfl
  | some o => exact ix_loopX len ex f _ _
theorem loopX_eq (sb:Rdr) (j:Nat) (p:PN) (st:PS):loopX sb (j + 1) p st = if (st.oper 7).isSome then loopX sb j (((st.oper 7).getD oprZ).node [p,(sb st).1]) (sb st).2 else (p,st):=by
 rw [loopX]
 cases h:st.oper 7 <;> rfl
theorem fail_ts (st:PS) (len:Nat) (c:Int):(st.fail len c).ts = []:=by unfold PS.fail;split <;> rfl
theorem enter_le (st:PS) (len:Nat):(st.enter len).ts.length ≤ st.ts.length:=by
 unfold PS.enter
 split
 ·rw [fail_ts];exact Nat.zero_le _
 ·exact Nat.le_refl _
theorem sign_le (st:PS) (len:Nat) (s:ByteArray):(st.sign len s).ts.length ≤ st.ts.length:=by
 unfold PS.sign
 split
 ·simp [PS.next]
 ·rw [fail_ts];exact Nat.zero_le _
theorem inBr_lt {st:PS} {len:Nat} {ex:Rdr} (c:ByteArray) (hsh:∀ s,(ex s).2.ts.length ≤ s.ts.length) (h:st.ts ≠ []):(inBrP len ex c st).2.ts.length < st.ts.length:=by
 have h1:=enter_le st len
 have h2:=hsh (st.enter len).next
 have h3:=sign_le (ex (st.enter len).next).2 len c
 have h4:(st.enter len).next.ts.length = (st.enter len).ts.length - 1:=by simp [PS.next]
 have h5:0 < st.ts.length:=List.length_pos_iff.2 h
 show ((ex (st.enter len).next).2.sign len c).ts.length < _
 omega
theorem oper_some_ne {st:PS} {lv:Int} (h:(st.oper lv).isSome = true):st.ts ≠ []:=by
 intro e
 obtain ⟨z,hz⟩:=Option.isSome_iff_exists.1 h
 have:=oper_ne hz
 rw [e] at this
 simp at this
structure IxI (sb:Rdr) (g len:Nat) (w wr:World) (R:PN × PS) (b3 b4:Nat) (bb:Bool) (k o:Int) (s:ByteArray) (n:Int) (l:List PN) (a:Option Addr) (cap:Nat) (z:Opr) (stc:PS) (j:Nat):Prop where
 eq:R = if bb then loopX sb j (z.node [⟨k,o,s,n,l⟩,(sb stc).1]) (sb stc).2 else (⟨k,o,s,n,l⟩,stc)
 fuel:bb = true → (sb stc).2.ts.length < j
 r2:wr.heap[w.heap.size]? = some (nodO 0 0 emptyB 0 (.slice none 0 0))
 r3:wr.heap[b3]? = some (nodO k o s n (.slice a l.length cap))
 r4:wr.heap[b4]? = some (oprO z)
 hc:l.length ≤ cap
 rep:RepNL wr (fun b => w.heap.size < b ∧ b < wr.heap.size ∧ b ≠ b3 ∧ b ≠ b4) l a
 h3:w.heap.size < b3
 h34:b3 < b4
 rs:Rs wr g len stc
 gr:Gr g w wr
structure IxM (sb:Rdr) (g len:Nat) (w W:World) (R:PN × PS) (b3:Nat) (k o:Int) (s:ByteArray) (n:Int) (l:List PN) (a:Option Addr) (cap:Nat) (st2:PS) (j:Nat):Prop where
 eq:R = loopX sb j ⟨k,o,s,n,l⟩ st2
 fuel:st2.ts.length < j
 r2:W.heap[w.heap.size]? = some (nodO 0 0 emptyB 0 (.slice none 0 0))
 r3:W.heap[b3]? = some (nodO k o s n (.slice a l.length cap))
 hc:l.length ≤ cap
 rep:RepNL W (fun b => w.heap.size < b ∧ b < W.heap.size ∧ b ≠ b3) l a
 h3:w.heap.size < b3
 rs:Rs W g len st2
 gr:Gr g w W
theorem IxM.of {sb:Rdr} {g len:Nat} {w wr w3 w4:World} {R:PN × PS} {b3 b4:Nat} {k o:Int} {s:ByteArray} {n:Int} {l:List PN} {a:Option Addr} {cap:Nat} {z:Opr} {st0 stc st2:PS} {j:Nat} {k2 o2:Int} {s2:ByteArray} {n2:Int} {l2:List PN} {a2:Option Addr} {cap2:Nat} {t:TypeId}
  (hR:Rs w g len st0) (h:IxI sb g len w wr R b3 b4 true k o s n l a cap z stc j) (hq:R = loopX sb j (z.node [⟨k,o,s,n,l⟩,⟨k2,o2,s2,n2,l2⟩]) st2) (hl:st2.ts.length < j) (X3:Gr g wr w3) (S3:St w3 g len st2) (hc2:l2.length ≤ cap2) (L3:RepNL w3 (Fr wr.heap.size w3.heap.size) l2 a2) (X4:Ext w3 w4)
  (RI:w4.heap[w3.heap.size]? = some (.cells #[.int .i64 k,.int .i64 o,.string s,.int .i64 n,.slice a l.length cap,.int .i64 k2,.int .i64 o2,.string s2,.int .i64 n2,.slice a2 l2.length cap2] t (0,0))) :
  IxM sb g len w (set5 w4 b3 z.k z.o emptyB 0 (.slice (some ⟨w3.heap.size,0,none⟩) 2 2)) R b3 z.k z.o emptyB 0 [⟨k,o,s,n,l⟩,⟨k2,o2,s2,n2,l2⟩] (some ⟨w3.heap.size,0,none⟩) 2 st2 j:=by
 have hg:g < w.heap.size:=hR.st.lt
 have h3:=h.h3
 have h34:=h.h34
 have hb4:b4 < wr.heap.size:=(Array.getElem?_eq_some_iff.1 h.r4).1
 have hlt:w3.heap.size < w4.heap.size:=(Array.getElem?_eq_some_iff.1 RI).1
 have X34:Gr g wr w4:=X3.trans (Gr.of X4)
 have hsz:=X3.size
 have G5:Gr g w (set5 w4 b3 z.k z.o emptyB 0 (.slice (some ⟨w3.heap.size,0,none⟩) 2 2)):=(h.gr.trans X34).set5 (by omega) _ _ _ _ _
 have S5:=(S3.ext X4).set5 (b:=b3) (by omega) z.k z.o emptyB 0 (.slice (some ⟨w3.heap.size,0,none⟩) 2 2)
 have Z5:=set5_size w4 b3 z.k z.o emptyB 0 (.slice (some ⟨w3.heap.size,0,none⟩) 2 2)
 have B5:∀ x,x ≠ b3 → (set5 w4 b3 z.k z.o emptyB 0 (.slice (some ⟨w3.heap.size,0,none⟩) 2 2)).heap[x]? = w4.heap[x]?:=fun x hx => set5_block hx _ _ _ _ _
 have R5:=set5_row (X34.row h.r3 (by omega)) z.k z.o emptyB 0 (.slice (some ⟨w3.heap.size,0,none⟩) 2 2)
 generalize set5 w4 b3 z.k z.o emptyB 0 (.slice (some ⟨w3.heap.size,0,none⟩) 2 2) = W at *
 have hr2:W.heap[w.heap.size]? = some (nodO 0 0 emptyB 0 (.slice none 0 0)):=(B5 _ (by omega)).trans (X34.row h.r2 (by omega))
 have hp1:RepNL W (fun b => w.heap.size < b ∧ b < W.heap.size ∧ b ≠ b3) l a:=RepNL.to (fun b hb => ⟨⟨hb.1,by omega,hb.2.2.1⟩,(B5 b hb.2.2.1).trans (X34.block b hb.2.1 (by omega))⟩) _ _ h.rep
 have hp2:RepNL W (fun b => w.heap.size < b ∧ b < W.heap.size ∧ b ≠ b3) l2 a2:=RepNL.to (fun b hb => by
  have h1:=hb.1
  have h2:=hb.2
  exact ⟨⟨by omega,by omega,by omega⟩,(B5 b (by omega)).trans (X4.block b hb.2)⟩) _ _ L3
 have hpr:=pair_rep (F:=fun b => w.heap.size < b ∧ b < W.heap.size ∧ b ≠ b3) ((B5 _ (by omega)).trans RI) ⟨by omega,by omega,by omega⟩ h.hc hc2 hp1 hp2
 have hfu:=hl
 exact ⟨hq,by omega,hr2,R5,Nat.le_refl _,hpr,h3,hR.go G5 S5,G5⟩
theorem IxM.head {sb:Rdr} {g len:Nat} {w W w6:World} {R:PN × PS} {b3:Nat} {k o:Int} {s:ByteArray} {n:Int} {l:List PN} {a:Option Addr} {cap:Nat} {z:Opr} {st0 st2:PS} {j:Nat}
  (hR:Rs w g len st0) (h:IxM sb g len w W R b3 k o s n l a cap st2 (j + 1)) (hdec:(st2.oper 7).isSome = true → (sb st2).2.ts.length < st2.ts.length) (X6:Gr g (W.alloc (oprO z)) w6) (S6:St w6 g len st2) :
  IxI sb g len w (setO w6 W.heap.size ((st2.oper 7).getD oprZ)) R b3 W.heap.size (st2.oper 7).isSome k o s n l a cap ((st2.oper 7).getD oprZ) st2 j:=by
 have hg:g < w.heap.size:=hR.st.lt
 have h3:=h.h3
 have hb3:b3 < W.heap.size:=(Array.getElem?_eq_some_iff.1 h.r3).1
 have hf:=h.fuel
 have hs6:=X6.size
 rw [size_alloc] at hs6
 have hgs:=h.gr.size
 have GW:Gr g W w6:=(Gr.of (Ext.alloc _ _)).trans X6
 have G5:=(h.gr.trans GW).setO (b:=W.heap.size) hgs ((st2.oper 7).getD oprZ)
 have S5:=S6.setO (b:=W.heap.size) (by omega) ((st2.oper 7).getD oprZ)
 have B5:∀ x,x ≠ W.heap.size → (setO w6 W.heap.size ((st2.oper 7).getD oprZ)).heap[x]? = w6.heap[x]?:=fun x hx => by
  rw [Below.heap_setCell _ _ _ _ hx,Below.heap_setCell _ _ _ _ hx,Below.heap_setCell _ _ _ _ hx,Below.heap_setCell _ _ _ _ hx]
 have Z5:(setO w6 W.heap.size ((st2.oper 7).getD oprZ)).heap.size = w6.heap.size:=by simp [World.setCell]
 have R5:=setO_row (X6.row (Go.heap_alloc_new W _) (by omega)) ((st2.oper 7).getD oprZ)
 have heq:=h.eq.trans (loopX_eq _ _ _ _)
 have hlt:=hdec
 generalize setO w6 W.heap.size ((st2.oper 7).getD oprZ) = V at *
 refine ⟨heq,fun hb => by have:=hlt hb;omega,(B5 _ (by omega)).trans (GW.row h.r2 (by omega)),(B5 _ (by omega)).trans (GW.row h.r3 (by omega)),R5,h.hc,RepNL.to (fun b hb => ?_) _ _ h.rep,h3,hb3,hR.go G5 S5,G5⟩
 have h1:=hb.1
 have h2:=hb.2.1
 exact ⟨⟨h1,by omega,hb.2.2,by omega⟩,(B5 b (by omega)).trans (GW.block b hb.2.1 (by omega))⟩
end Go.Proofs.YtgkdmgndebifiaaGreatDoor
namespace Go.Proofs.YtgkdmgndebifiaaGreatDoor
open Go.RowKit
theorem next_le (st:PS):st.next.ts.length ≤ st.ts.length:=by simp [PS.next]
theorem next_lt_of {st:PS} (h:st.ts ≠ []):st.next.ts.length < st.ts.length:=by
 cases e:st.ts with
 | nil => exact absurd e h
 | cons t r => simp [PS.next,e]
theorem fail_le (st:PS) (len:Nat) (c:Int):(st.fail len c).ts.length ≤ st.ts.length:=by rw [fail_ts];exact Nat.zero_le _
theorem word_le (st:PS) (len:Nat) (s:ByteArray):(st.word len s).ts.length ≤ st.ts.length:=by
 unfold PS.word
 split
 ·exact next_le _
 ·exact fail_le _ _ _
theorem psign_le (st:PS) (len:Nat) (s:ByteArray):(st.sign len s).ts.length ≤ st.ts.length:=by
 unfold PS.sign
 split
 ·exact next_le _
 ·exact fail_le _ _ _
theorem name_le (st:PS) (len:Nat):(st.name len).2.ts.length ≤ st.ts.length:=by
 unfold PS.name
 split
 ·exact next_le _
 ·exact fail_le _ _ _
theorem isW_ne {st:PS} {s:ByteArray} (h:st.isW s = true):st.ts ≠ []:=by
 intro e
 unfold PS.isW isT at h
 rw [e] at h
 exact absurd h (by simp [hdT,tkZ])
theorem psign_lt {st:PS} (len:Nat) (s:ByteArray) (h:st.ts ≠ []):(st.sign len s).ts.length < st.ts.length:=by
 unfold PS.sign
 split
 ·exact next_lt_of h
 ·rw [fail_ts];exact List.length_pos_iff.2 h
theorem word_lt {st:PS} (len:Nat) (s:ByteArray) (h:st.ts ≠ []):(st.word len s).ts.length < st.ts.length:=by
 unfold PS.word
 split
 ·exact next_lt_of h
 ·rw [fail_ts];exact List.length_pos_iff.2 h
theorem name_lt {st:PS} (len:Nat) (h:st.ts ≠ []):(st.name len).2.ts.length < st.ts.length:=by
 unfold PS.name
 split
 ·exact next_lt_of h
 ·rw [fail_ts];exact List.length_pos_iff.2 h
theorem isCall_ne {st:PS} (h:st.isCall = true):st.ts ≠ []:=by
 intro e
 unfold PS.isCall at h
 rw [e] at h
 exact absurd h (by simp [hdT,tkZ])
abbrev Shorter (r:Rdr):Prop:=∀ s,(r s).2.ts.length ≤ s.ts.length
theorem more_le {len:Nat} {ex:Rdr} (h:Shorter ex):∀ (f:Nat) (acc:List PN) (st:PS),(moreP len ex f acc st).2.ts.length ≤ st.ts.length
 | 0,acc,st => Nat.le_refl _
 | f + 1,acc,st => by
  rw [moreP]
  have h1:=(takeS_len st ⟨#[44]⟩).1
  cases e:st.takeS ⟨#[44]⟩ with
  | mk b s1 =>
   rw [e] at h1
   cases b
   ·exact h1
   ·exact Nat.le_trans (more_le h f _ _) (Nat.le_trans (h s1) h1)
theorem ops_le {len:Nat} {ex:Rdr} (h:Shorter ex) (f:Nat) (c:ByteArray) (st:PS):(opsP len ex f c st).2.ts.length ≤ st.ts.length:=by
 unfold opsP
 have h1:=(takeS_len st c).1
 cases e:st.takeS c with
 | mk b s1 =>
  rw [e] at h1
  cases b
  ·exact Nat.le_trans (psign_le _ _ _) (Nat.le_trans (more_le h f _ _) (Nat.le_trans (h s1) h1))
  ·exact h1
theorem lit_le (len:Nat):Shorter (litP len):=by
 intro st
 unfold litP
 split
 ·exact next_le _
 split
 ·exact next_le _
 split
 ·exact next_le _
 split
 ·exact next_le _
 ·exact fail_le _ _ _
theorem list_le {len:Nat} {ex:Rdr} (h:Shorter ex) (f:Nat):Shorter (listP len ex f):=fun st =>
 Nat.le_trans (ops_le h f _ _) (Nat.le_trans (psign_le _ _ _) (enter_le _ _))
theorem call_le {len:Nat} {ex:Rdr} (h:Shorter ex) (f:Nat):Shorter (callP len ex f):=fun st =>
 Nat.le_trans (ops_le h f _ _) (Nat.le_trans (psign_le _ _ _) (Nat.le_trans (name_le _ _) (enter_le _ _)))
theorem inBr_le {len:Nat} {ex:Rdr} (h:Shorter ex) (c:ByteArray):Shorter (inBrP len ex c):=fun st =>
 Nat.le_trans (psign_le _ _ _) (Nat.le_trans (h _) (Nat.le_trans (next_le _) (enter_le _ _)))
theorem sgl_le {len:Nat} {ex:Rdr} (h:Shorter ex) (f:Nat):Shorter (sglP len ex f):=by
 intro st
 unfold sglP
 split
 ·exact inBr_le h _ _
 split
 ·exact list_le h _ _
 split
 ·exact next_le _
 split
 ·exact call_le h _ _
 ·exact lit_le _ _
theorem ixLoop_le {len:Nat} {ex:Rdr} (h:Shorter ex):∀ (f:Nat) (n:PN) (st:PS),(ixLoopP len ex f n st).2.ts.length ≤ st.ts.length
 | 0,n,st => Nat.le_refl _
 | f + 1,n,st => by
  rw [ixLoopP]
  cases st.oper 7 with
  | none => exact Nat.le_refl _
  | some o => exact Nat.le_trans (ixLoop_le h f _ _) (inBr_le h _ _)
theorem idx_le {len:Nat} {ex:Rdr} (h:Shorter ex) (f:Nat):Shorter (idxP len ex f):=fun st =>
 Nat.le_trans (ixLoop_le h f _ _) (sgl_le h f st)
theorem sgn_le {len:Nat} {sg ex:Rdr} (hs:Shorter sg) (h:Shorter ex) (f:Nat):Shorter (sgnP len sg ex f):=by
 intro st
 unfold sgnP
 cases st.oper 6 with
 | none => exact idx_le h f st
 | some o => exact Nat.le_trans (hs _) (Nat.le_trans (next_le _) (enter_le _ _))
theorem loop_le {lv:Int} {sub:Rdr} (h:Shorter sub):∀ (f:Nat) (n:PN) (st:PS),(loopP lv sub f n st).2.ts.length ≤ st.ts.length
 | 0,n,st => Nat.le_refl _
 | f + 1,n,st => by
  rw [loopP]
  have h1:=takeO_le st lv
  cases e:st.takeO lv with
  | mk b s1 =>
   rw [e] at h1
   cases b
   ·exact h1
   ·exact Nat.le_trans (loop_le h f _ _) (Nat.le_trans (h s1) h1)
theorem lev_le {lv:Int} {sub:Rdr} (h:Shorter sub) (f:Nat):Shorter (levP lv sub f):=fun st => Nat.le_trans (loop_le h f _ _) (h st)
theorem cmp_le {sub:Rdr} (h:Shorter sub):Shorter (cmpP sub):=by
 intro st
 unfold cmpP
 have h1:=takeO_le (sub st).2 3
 cases e:(sub st).2.takeO 3 with
 | mk b s1 =>
  rw [e] at h1
  cases b
  ·exact Nat.le_trans h1 (h st)
  ·exact Nat.le_trans (h s1) (Nat.le_trans h1 (h st))
theorem prd_le {sg:Rdr} (h:Shorter sg) (f:Nat):Shorter (prdP sg f):=lev_le h f
theorem sum_le {sg:Rdr} (h:Shorter sg) (f:Nat):Shorter (sumP sg f):=lev_le (prd_le h f) f
theorem bot_le {sg:Rdr} (h:Shorter sg) (f:Nat):Shorter (botP sg f):=lev_le (cmp_le (sum_le h f)) f
theorem or_le {sg:Rdr} (h:Shorter sg) (f:Nat):Shorter (orP sg f):=lev_le (bot_le h f) f
theorem both_le (len:Nat):∀ f,Shorter (bothP len f).1 ∧ Shorter (bothP len f).2
 | 0 => ⟨fun _ => Nat.le_refl _,fun _ => Nat.le_refl _⟩
 | f + 1 => by
  obtain ⟨h1,h2⟩:=both_le len f
  rw [bothP]
  exact ⟨sgn_le h1 h2 _,or_le (sgn_le h1 h2 _) _⟩
theorem ex_le (len f:Nat):Shorter (exP len f):=(both_le len f).2
end Go.Proofs.YtgkdmgndebifiaaGreatDoor
namespace Go.Proofs.YtgkdmgndebifiaaGreatDoor
open Go.RowKit
def ofExP (len:Nat) (ex:Rdr) (k:Int) (st:PS):PN × PS:=(⟨k,0,emptyB,0,[(ex st).1]⟩,(ex st).2.sign len ⟨#[59]⟩)
def plainP (len:Nat) (k:Int) (st:PS):PN × PS:=(⟨k,0,emptyB,0,[]⟩,st.sign len ⟨#[59]⟩)
def answerP (len:Nat) (ex:Rdr) (st:PS):PN × PS:=if st.isS ⟨#[59]⟩ then plainP len 7 st else ofExP len ex 7 st
def namedP (len:Nat) (ex:Rdr) (k:Int) (st:PS):PN × PS :=
 (⟨k,0,(st.name len).1,0,(ofExP len ex k ((st.name len).2.sign len ⟨#[61]⟩)).1.l⟩,(ofExP len ex k ((st.name len).2.sign len ⟨#[61]⟩)).2)
def PS.isSet (st:PS):Bool:=((hdT st.ts 0).k == 1) && isT (hdT st.ts 1) 6 ⟨#[61]⟩
def PS.stop (st:PS):Bool:=((st.ts.length:Int) == 0) || st.isS ⟨#[125]⟩
def blkLoop (sm:Rdr):Nat → List PN → PS → List PN × PS
 | 0,acc,st => (acc,st)
 | f + 1,acc,st => if st.stop then (acc,st) else blkLoop sm f (acc ++ [(sm st).1]) (sm st).2
def blkP (len:Nat) (sm:Rdr) (f:Nat) (st:PS):PN × PS :=
 if st.isS ⟨#[123]⟩ then (⟨10,0,emptyB,0,(blkLoop sm f [] (st.enter len).next).1⟩,((blkLoop sm f [] (st.enter len).next).2.sign len ⟨#[125]⟩).leave) else (⟨10,0,emptyB,0,[]⟩,st.fail len 10)
def choP (ex bl ot:Rdr) (st:PS):PN × PS :=
 if (bl (ex st).2).2.isW ⟨#[101,108,115,101]⟩ then (⟨3,0,emptyB,0,[(ex st).1,(bl (ex st).2).1,(ot (bl (ex st).2).2.next).1]⟩,(ot (bl (ex st).2).2.next).2)
 else (⟨3,0,emptyB,0,[(ex st).1,(bl (ex st).2).1]⟩,(bl (ex st).2).2)
def othP (ch bl:Rdr) (st:PS):PN × PS :=
 if st.isW ⟨#[105,102]⟩ then (⟨10,0,emptyB,0,[(ch st.next).1]⟩,(ch st.next).2) else bl st
def whiP (ex bl:Rdr) (st:PS):PN × PS:=(⟨4,0,emptyB,0,[(ex st).1,(bl (ex st).2).1]⟩,(bl (ex st).2).2)
def stmP (len:Nat) (ex bl ch:Rdr) (st:PS):PN × PS :=
 if st.isW ⟨#[108,101,116]⟩ then namedP len ex 1 st.next else
 if st.isSet then namedP len ex 2 st else
 if st.isW ⟨#[105,102]⟩ then ch st.next else
 if st.isW ⟨#[119,104,105,108,101]⟩ then whiP ex bl st.next else
 if st.isW ⟨#[98,114,101,97,107]⟩ then plainP len 5 st.next else
 if st.isW ⟨#[99,111,110,116,105,110,117,101]⟩ then plainP len 6 st.next else
 if st.isW ⟨#[114,101,116,117,114,110]⟩ then answerP len ex st.next else
 if st.isW ⟨#[112,114,105,110,116]⟩ then ofExP len ex 8 st.next else ofExP len ex 9 st
def stsP (len fe:Nat):Nat → Rdr × Rdr × Rdr
 | 0 => (fun st => (nodeZ,st),fun st => (nodeZ,st),fun st => (nodeZ,st))
 | f + 1 => (stmP len (exP len fe) (stsP len fe f).2.1 (stsP len fe f).2.2,blkP len (stsP len fe f).1 (f + 1),choP (exP len fe) (blkP len (stsP len fe f).1 (f + 1)) (othP (stsP len fe f).2.2 (stsP len fe f).2.1))
structure PFn where
 nm:ByteArray
 ps:List ByteArray
 bd:PN
def parLoop (len:Nat):Nat → List ByteArray → PS → List ByteArray × PS
 | 0,acc,st => (acc,st)
 | f + 1,acc,st => if st.isS ⟨#[44]⟩ then parLoop len f (acc ++ [(st.next.name len).1]) (st.next.name len).2 else (acc,st)
def parP (len f:Nat) (st:PS):List ByteArray × PS :=
 if st.isS ⟨#[41]⟩ then ([],st.next) else ((parLoop len f [(st.name len).1] (st.name len).2).1,(parLoop len f [(st.name len).1] (st.name len).2).2.sign len ⟨#[41]⟩)
def funA (len:Nat) (st:PS):ByteArray × PS:=(st.word len ⟨#[102,110]⟩).name len
def funB (len f:Nat) (st:PS):List ByteArray × PS:=parP len f ((funA len st).2.sign len ⟨#[40]⟩)
def funP (len:Nat) (bl:Rdr) (f:Nat) (st:PS):PFn × PS:=(⟨(funA len st).1,(funB len f st).1,(bl (funB len f st).2).1⟩,(bl (funB len f st).2).2)
def funsP (len:Nat) (bl:Rdr) (f:Nat):Nat → List PFn → PS → List PFn × PS
 | 0,acc,st => (acc,st)
 | j + 1,acc,st => if ((st.ts.length:Int) == 0) then (acc,st) else funsP len bl f j (acc ++ [(funP len bl f st).1]) (funP len bl f st).2
theorem sign_lt_of {s:PS} {n:Nat} (len:Nat) (c:ByteArray) (h:s.ts.length ≤ n) (hn:0 < n):(s.sign len c).ts.length < n:=by
 unfold PS.sign
 split
 ·rename_i hb;exact Nat.lt_of_lt_of_le (next_lt hb) h
 ·rw [fail_ts];exact hn
theorem ofEx_lt {len:Nat} {ex:Rdr} (h:Shorter ex) (k:Int) {st:PS} {n:Nat} (hs:st.ts.length ≤ n) (hn:0 < n):(ofExP len ex k st).2.ts.length < n :=
 sign_lt_of len _ (Nat.le_trans (h st) hs) hn
theorem ofEx_le {len:Nat} {ex:Rdr} (h:Shorter ex) (k:Int):Shorter (ofExP len ex k):=fun st => Nat.le_trans (psign_le _ _ _) (h st)
theorem named_lt {len:Nat} {ex:Rdr} (h:Shorter ex) (k:Int) {st:PS} {n:Nat} (hs:st.ts.length ≤ n) (hn:0 < n):(namedP len ex k st).2.ts.length < n :=
 ofEx_lt h k (Nat.le_trans (psign_le _ _ _) (Nat.le_trans (name_le _ _) hs)) hn
theorem plain_lt {len:Nat} (k:Int) {st:PS} {n:Nat} (hs:st.ts.length ≤ n) (hn:0 < n):(plainP len k st).2.ts.length < n:=sign_lt_of len _ hs hn
theorem answer_lt {len:Nat} {ex:Rdr} (h:Shorter ex) {st:PS} {n:Nat} (hs:st.ts.length ≤ n) (hn:0 < n):(answerP len ex st).2.ts.length < n:=by
 unfold answerP
 split
 ·exact plain_lt 7 hs hn
 ·exact ofEx_lt h 7 hs hn
theorem blkLoop_le {sm:Rdr} (h:Shorter sm):∀ (f:Nat) (acc:List PN) (st:PS),(blkLoop sm f acc st).2.ts.length ≤ st.ts.length
 | 0,acc,st => Nat.le_refl _
 | f + 1,acc,st => by
  rw [blkLoop]
  split
  ·exact Nat.le_refl _
  ·exact Nat.le_trans (blkLoop_le h f _ _) (h st)
theorem blk_le {len:Nat} {sm:Rdr} (h:Shorter sm) (f:Nat):Shorter (blkP len sm f):=by
 intro st
 unfold blkP
 split
 ·exact Nat.le_trans (psign_le _ _ _) (Nat.le_trans (blkLoop_le h f _ _) (Nat.le_trans (next_le _) (enter_le _ _)))
 ·exact fail_le _ _ _
theorem cho_le {ex bl ot:Rdr} (h:Shorter ex) (hb:Shorter bl) (ho:Shorter ot):Shorter (choP ex bl ot):=by
 intro st
 unfold choP
 split
 ·exact Nat.le_trans (ho _) (Nat.le_trans (next_le _) (Nat.le_trans (hb _) (h st)))
 ·exact Nat.le_trans (hb _) (h st)
theorem oth_le {ch bl:Rdr} (h:Shorter ch) (hb:Shorter bl):Shorter (othP ch bl):=by
 intro st
 unfold othP
 split
 ·exact Nat.le_trans (h _) (next_le _)
 ·exact hb st
theorem whi_le {ex bl:Rdr} (h:Shorter ex) (hb:Shorter bl):Shorter (whiP ex bl):=fun st => Nat.le_trans (hb _) (h st)
theorem stm_lt {len:Nat} {ex bl ch:Rdr} (h:Shorter ex) (hb:Shorter bl) (hc:Shorter ch) {st:PS} (hne:st.ts ≠ []):(stmP len ex bl ch st).2.ts.length < st.ts.length:=by
 have h0:=List.length_pos_iff.2 hne
 have h1:=next_lt_of hne
 unfold stmP
 split
 ·exact named_lt h 1 (next_le _) h0
 split
 ·exact named_lt h 2 (Nat.le_refl _) h0
 split
 ·exact Nat.lt_of_le_of_lt (hc _) h1
 split
 ·exact Nat.lt_of_le_of_lt (whi_le h hb _) h1
 split
 ·exact plain_lt 5 (next_le _) h0
 split
 ·exact plain_lt 6 (next_le _) h0
 split
 ·exact answer_lt h (next_le _) h0
 split
 ·exact ofEx_lt h 8 (next_le _) h0
 ·exact ofEx_lt h 9 (Nat.le_refl _) h0
theorem stm_le {len:Nat} {ex bl ch:Rdr} (h:Shorter ex) (hb:Shorter bl) (hc:Shorter ch):Shorter (stmP len ex bl ch):=by
 intro st
 by_cases hne:st.ts = []
 ·have hW:∀ s,st.isW s = false:=fun s => by cases e:st.isW s with | false => rfl | true => exact absurd hne (isW_ne e)
  have hS:st.isSet = false:=by unfold PS.isSet;rw [hne];simp [hdT,tkZ]
  unfold stmP
  rw [hW,hS,hW,hW,hW,hW,hW,hW]
  simp only [Bool.false_eq_true,if_false]
  exact ofEx_le h 9 st
 ·exact Nat.le_of_lt (stm_lt h hb hc hne)
theorem sts_le (len fe:Nat):∀ f,Shorter (stsP len fe f).1 ∧ Shorter (stsP len fe f).2.1 ∧ Shorter (stsP len fe f).2.2
 | 0 => ⟨fun _ => Nat.le_refl _,fun _ => Nat.le_refl _,fun _ => Nat.le_refl _⟩
 | f + 1 => by
  obtain ⟨h1,h2,h3⟩:=sts_le len fe f
  rw [stsP]
  exact ⟨stm_le (ex_le len fe) h2 h3,blk_le h1 _,cho_le (ex_le len fe) (blk_le h1 _) (oth_le h3 h2)⟩
theorem parLoop_le (len:Nat):∀ (f:Nat) (acc:List ByteArray) (st:PS),(parLoop len f acc st).2.ts.length ≤ st.ts.length
 | 0,acc,st => Nat.le_refl _
 | f + 1,acc,st => by
  rw [parLoop]
  split
  ·exact Nat.le_trans (parLoop_le len f _ _) (Nat.le_trans (name_le _ _) (next_le _))
  ·exact Nat.le_refl _
theorem par_le (len f:Nat) (st:PS):(parP len f st).2.ts.length ≤ st.ts.length:=by
 unfold parP
 split
 ·exact next_le _
 ·exact Nat.le_trans (psign_le _ _ _) (Nat.le_trans (parLoop_le _ _ _ _) (name_le _ _))
theorem funA_lt {len:Nat} {st:PS} (hne:st.ts ≠ []):(funA len st).2.ts.length < st.ts.length:=Nat.lt_of_le_of_lt (name_le _ _) (word_lt len _ hne)
theorem funB_lt {len f:Nat} {st:PS} (hne:st.ts ≠ []):(funB len f st).2.ts.length < st.ts.length:=Nat.lt_of_le_of_lt (Nat.le_trans (par_le _ _ _) (psign_le _ _ _)) (funA_lt hne)
theorem fun_lt {len f:Nat} {bl:Rdr} (hb:Shorter bl) {st:PS} (hne:st.ts ≠ []):(funP len bl f st).2.ts.length < st.ts.length:=Nat.lt_of_le_of_lt (hb _) (funB_lt hne)
end Go.Proofs.YtgkdmgndebifiaaGreatDoor
