/- A row of trees under way whose slice lies in a variable of the call's own;a region whose ways out are normal. -/
import Derived.Test.YtjnpehohialmbaaGreatZs12
set_option linter.unusedSimpArgs false
set_option linter.unusedVariables false
set_option maxRecDepth 10000
set_option maxHeartbeats 8000000
namespace Go.Proofs.YtjnpehohialmbaaGreat
open Go.RowKit
section
def Nrm (Q:Exit→Act→World→Prop):Exit→Act→World→Prop
 | .normal,a,w=>Q .normal a w
 | _,_,_=>False
theorem wp_nrm {P:Program} {c:Code} {Q:Exit→Act→World→Prop} {a:Act} {w:World} (h:c.wp P (Nrm Q) a w):c.wp P Q a w :=
 Code.wp_mono (fun e a w hq=>by cases e <;> first | exact hq | exact hq.elim) h
structure HoldB (base:Nat) (wr:World) (ps:List PN) (ao:Option Addr) (cap:Nat):Prop where
 own:∃ xs,wr.ownsRow base 46 5 (.slice ao ps.length cap) ps.length xs∧RowN wr (fun b=>base≤b∧b < wr.heap.size∧some b≠(Value.slice ao ps.length cap).ownBlock) ps xs
theorem HoldB.nil (base:Nat) (wr:World):HoldB base wr [] none 0:=⟨[],World.ownsRow_nil _ _ _ _,rfl⟩
theorem heldB_on {x base:Nat} {wr w2:World} {acc:List PN} {v:Value} {n:Nat} {xs:List Value} (hx:wr.ownsRow base 46 5 v n xs∧RowN wr (fun b=>base≤b∧b < wr.heap.size∧some b≠v.ownBlock) acc xs) (k:Gr x wr w2) (hb:x < base) :
  w2.ownsRow base 46 5 v n xs∧RowN w2 (fun b=>base≤b∧b < w2.heap.size∧some b≠v.ownBlock) acc xs :=
 ⟨own_gr hx.1 k hb,RowN.to (fun b hb=>⟨⟨hb.1,Nat.lt_of_lt_of_le hb.2.1 k.size,hb.2.2⟩,k.block b hb.2.1 (by have:=hb.1;omega)⟩) hx.2⟩
theorem HoldB.on {x base:Nat} {wr w2:World} {ps:List PN} {ao:Option Addr} {cap:Nat} (h:HoldB base wr ps ao cap) (k:Gr x wr w2) (hx:x < base):HoldB base w2 ps ao cap:=by
 obtain⟨xs,hx2⟩:=h.own;exact⟨xs,heldB_on hx2 k hx⟩
theorem HoldB.done {base:Nat} {wr:World} {ps:List PN} {ao:Option Addr} {cap:Nat} (h:HoldB base wr ps ao cap):ps.length≤cap∧RepNL wr (Fr base wr.heap.size) ps ao:=by
 obtain⟨xs,ho,hr⟩:=h.own;obtain⟨hlen,⟨e,h0⟩ | ⟨b,cap2,cur,e,hb,hrow,hc,_⟩⟩:=id ho
 ·have:ps = []:=List.length_eq_zero_iff.1 h0
  subst this;exact⟨Nat.zero_le _,by simp[RepNL]⟩
 ·injection e with e1 e2 e3
  subst e1 e3;refine⟨hc,RowN.repL (g:=b) ⟨hb,(Array.getElem?_eq_some_iff.1 hrow).1⟩ (RowN.to (fun x hx=>⟨⟨hx.1,hx.2.1⟩,rfl⟩) hr) (cells_own ho)⟩
theorem below_grown {base:Nat} {w2 w3:World} {e:TypeId} {size n:Nat} {v:Value} {xs:List Value} (hown:w2.ownsRow base e size v n xs) (hgw:w2.grownBy w3 v.ownBlock):∀ k,k < base→k < w2.heap.size→w3.heap[k]? = w2.heap[k]? :=
 fun k hk hk2=>hgw.block k hk2 (fun e=>by have:=(hown.lt k e.symm).1;omega)
theorem Gr.append {g base:Nat} {w w2 w3:World} {e:TypeId} {size n:Nat} {v:Value} {xs:List Value} (hgr:Gr g w w2) (hown:w2.ownsRow base e size v n xs) (hb:w.heap.size≤base) (hgw:w2.grownBy w3 v.ownBlock):Gr g w w3 :=
 ⟨hgw.os.trans hgr.os,hgw.tape.trans hgr.tape,hgw.output.trans hgr.output,Nat.le_trans hgr.size hgw.size,fun k hk hk2=>(below_grown hown hgw k (by omega) (Nat.lt_of_lt_of_le hk hgr.size)).trans (hgr.block k hk hk2)⟩
theorem HoldB.snoc {base:Nat} {w2 w3:World} {ps:List PN} {ao:Option Addr} {cap g' cap':Nat} {p:PN} {a:Option Addr} {c:Nat} {xs:List Value}
  (hx:RowN w2 (fun b=>base≤b∧b < w2.heap.size∧some b≠(Value.slice ao ps.length cap).ownBlock) ps xs)
  (ho:w3.ownsRow base 46 5 (.slice (some ⟨g',0,none⟩) (ps.length+1) cap') (ps.length+1) (xs++ndC p a c))
  (hb:p.l.length≤c) (hp:RepNL w2 (fun b=>base≤b∧b < w2.heap.size∧some b≠(Value.slice ao ps.length cap).ownBlock) p.l a)
  (hgw:w2.grownBy w3 (Value.slice ao ps.length cap).ownBlock) (hw:(Value.slice ao ps.length cap).ownBlock=some g'∨w2.heap.size≤g') :
  HoldB base w3 (ps++[p]) (some ⟨g',0,none⟩) cap':=by
 have hlen:(ps++[p]).length=ps.length+1:=by simp
 have hF:∀ b,(base≤b∧b < w2.heap.size∧some b≠(Value.slice ao ps.length cap).ownBlock) →
   (base≤b∧b < w3.heap.size∧some b≠(Value.slice (some ⟨g',0,none⟩) (ps++[p]).length cap').ownBlock)∧w3.heap[b]? = w2.heap[b]?:=by
  intro b hb;refine⟨⟨hb.1,Nat.lt_of_lt_of_le hb.2.1 hgw.size,?_⟩,hgw.block b hb.2.1 hb.2.2⟩;intro e;simp only[Value.ownBlock,Option.some.injEq] at e;rcases hw with e2 | e2
  ·exact hb.2.2 (by rw[e2,e])
  ·omega
 exact⟨_,by rw[hlen];exact ho,RowN.snoc hb (RepNL.to hF _ _ hp) (RowN.to hF hx)⟩
end
section
def BkEq (len:Nat) (sm:Rdr) (F:List PN × PS) (k:Nat) (acc:List PN) (stc:PS):Prop :=
 F=blkLoop sm k acc stc∨(stc.e≠0∧(F.2.sign len ⟨#[125]⟩).e=stc.e∧(F.2.sign len ⟨#[125]⟩).pl=stc.pl)
structure RBkI (g len:Nat) (T:List Tk) (wd:Int) (sm:Rdr) (w wr:World) (F:List PN × PS) (stc:PS) (k:Nat) (acc ps:List PN) (ao:Option Addr) (cap:Nat):Prop where
 eq:BkEq len sm F k acc stc
 np:stc.e=0→ps=acc
 fuel:stc.e=0→stc.ts.length < k
 bnd:stc.e=0→ps.length+stc.ts.length≤100001
 hg:g < w.heap.size
 rs:Rp wr g len T wd stc
 gr:Gr g w wr
 r2:wr.heap[w.heap.size]? = some (nodO 0 0 zE 0 (.slice none 0 0))
 r3:wr.heap[w.heap.size+1]? = some (nodO 10 0 zE 0 (.slice ao ps.length cap))
 hold:HoldB (w.heap.size+2) wr ps ao cap
theorem Rp.append {g len base:Nat} {T:List Tk} {wd:Int} {w2 w3:World} {st:PS} {e:TypeId} {size n:Nat} {v:Value} {xs:List Value} (h:Rp w2 g len T wd st) (hg:g < base) (hown:w2.ownsRow base e size v n xs) (hgw:w2.grownBy w3 v.ownBlock):Rp w3 g len T wd st:=h.grown hg hown hgw
theorem RBkI.snoc {g len:Nat} {T:List Tk} {wd:Int} {sm:Rdr} {w wr w5 w6:World} {F:List PN × PS} {stc st5:PS} {j:Nat} {acc ps:List PN} {ao:Option Addr} {cap g' cap':Nat} {k o n:Int} {s:ByteArray} {l:List PN} {a:Option Addr} {c:Nat} {xs:List Value} {acc':List PN} {k':Nat}
  (h:RBkI g len T wd sm w wr F stc j acc ps ao cap) (hq:BkEq len sm F k' acc' st5) (hnp:st5.e=0→ps++[(⟨k,o,s,n,l⟩:PN)]=acc') (hfu:st5.e=0→st5.ts.length < k') (hbd:st5.e=0→ps.length+1+st5.ts.length≤100001) (X5:Gr g wr w5) (S5:Rp w5 g len T wd st5) (hc:l.length≤c) (L5:RepNL w5 (Fr wr.heap.size w5.heap.size) l a) (ob:Obj)
  (hx:(w5.alloc ob).ownsRow (w.heap.size+2) 46 5 (.slice ao ps.length cap) ps.length xs∧RowN (w5.alloc ob) (fun b=>w.heap.size+2≤b∧b < (w5.alloc ob).heap.size∧some b≠(Value.slice ao ps.length cap).ownBlock) ps xs)
  (ho:w6.ownsRow (w.heap.size+2) 46 5 (.slice (some ⟨g',0,none⟩) (ps.length+1) cap') (ps.length+1) (xs++[.int .i64 k,.int .i64 o,.string s,.int .i64 n,.slice a l.length c]))
  (hgw:(w5.alloc ob).grownBy w6 (Value.slice ao ps.length cap).ownBlock) (hw0:(Value.slice ao ps.length cap).ownBlock=some g'∨w5.heap.size+1≤g') :
  RBkI g len T wd sm w (w6.setCell ⟨w.heap.size+1,4,none⟩ (.slice (some ⟨g',0,none⟩) (ps.length+1) cap')) F st5 k' acc' (ps++[⟨k,o,s,n,l⟩]) (some ⟨g',0,none⟩) cap':=by
 have hg:=h.hg;have hr3:w.heap.size+1 < wr.heap.size:=(Array.getElem?_eq_some_iff.1 h.r3).1;have hsz:=X5.size;have hw:(Value.slice ao ps.length cap).ownBlock=some g'∨(w5.alloc ob).heap.size≤g':=by rw[size_alloc];exact hw0
 have hk:=below_grown hx.1 hgw;have G5:Gr g wr (w5.alloc ob):=X5.alloc ob;have hz5:(w5.alloc ob).heap.size=w5.heap.size+1:=size_alloc _ _;have hp:RepNL (w5.alloc ob) (fun b=>w.heap.size+2≤b∧b < (w5.alloc ob).heap.size∧some b≠(Value.slice ao ps.length cap).ownBlock) l a:=by
  obtain⟨ys,hy,_⟩:=h.hold.own;exact RepNL.to (fun b hb=>⟨⟨by have:=hb.1;omega,by have:=hb.2;omega,fun e=>by have:=(hy.lt b e.symm).2;have:=hb.1;omega⟩,(Ext.alloc w5 ob).block b hb.2⟩) _ _ L5
 have H6:HoldB (w.heap.size+2) w6 (ps++[⟨k,o,s,n,l⟩]) (some ⟨g',0,none⟩) cap':=HoldB.snoc (p:=⟨k,o,s,n,l⟩) hx.2 ho hc hp hgw hw;have G6:Gr g w w6:=Gr.append (h.gr.trans G5) hx.1 (by omega) hgw;have S6:Rp w6 g len T wd st5:=(S5.ext (Ext.alloc _ ob)).append (by omega) hx.1 hgw;have K6:Gr (w.heap.size+1) w6 (w6.setCell ⟨w.heap.size+1,4,none⟩ (.slice (some ⟨g',0,none⟩) (ps.length+1) cap')):=(Gr.refl _ _).set (p:=⟨w.heap.size+1,4,none⟩) (Or.inr rfl) _;have hln:(ps++[(⟨k,o,s,n,l⟩:PN)]).length=ps.length+1:=by simp
 have R3:w6.heap[w.heap.size+1]? = some (nodO 10 0 zE 0 (.slice ao ps.length cap)):=(hk _ (by omega) (by omega)).trans (G5.row h.r3 (by omega));have G7:=G6.set (p:=⟨w.heap.size+1,4,none⟩) (Or.inl (by show w.heap.size≤w.heap.size+1;omega)) (.slice (some ⟨g',0,none⟩) (ps.length+1) cap');have R2:w6.heap[w.heap.size]? = some (nodO 0 0 zE 0 (.slice none 0 0)):=(hk _ (by omega) (by omega)).trans (G5.row h.r2 (by omega));have hgw6:g < w6.heap.size:=S6.lt;have S7:Rp (w6.setCell ⟨w.heap.size+1,4,none⟩ (.slice (some ⟨g',0,none⟩) (ps.length+1) cap')) g len T wd st5:=by
  obtain⟨V,i,pl,dp,h1,⟨a2,cap2,rfl,q1,q2,q3⟩,h3⟩:=S6.ex;refine⟨⟨_,i,pl,dp,row_other h1 (by omega) _ _,⟨a2,cap2,rfl,q1,q2,?_⟩,h3⟩,S6.nv,S6.tk,S6.tl⟩;rcases q3 with q3 | ⟨b',off,rfl,hb',hcc⟩
  ·exact Or.inl q3
  ·refine Or.inr ⟨b',off,rfl,hb',fun j u hu => ?_⟩
   rw[World.cell?_of_block (w:=w6) (Below.heap_setCell w6 ⟨w.heap.size+1,4,none⟩ _ b' (by show b'≠w.heap.size+1;omega))];exact hcc j u hu
 exact⟨hq,hnp,hfu,fun e=>by rw[hln];have:=hbd e;omega,hg,S7,G7,row_other R2 (by omega) _ _,by rw[hln];exact row_set R3 4 _,H6.on K6 (by omega)⟩
end
section
variable {w w':World} {g len:Nat} {T:List Tk} {wd:Int} {st:PS}
theorem block_none (sm:Rdr) (f:Nat) (hS:st.isS ⟨#[123]⟩=false) (h:Rp w g len T wd st) :
  Calls Tryz.prog 36 #[.pointer (some ⟨g,0,none⟩)] w (RNode w g len T wd (blkP len sm f st)):=by
 have hg:=h.lt;have e1:blkP len sm f st=(⟨10,0,zE,0,[]⟩,st.fail len 10):=by unfold blkP;rw[hS];rfl
 rw[e1];have HF:=zh (fun (W:World) (x:Rp W g len T wd st)=>fail_r x 10 (by decide));have H:=zh h;have hwg:(w.heap.size == g)=false:=by simp;omega
 by_cases h0:st.e=0
 ·have HI:Hd (∀ W,Rp W g len T wd st→Calls Tryz.prog 63 #[.pointer (some ⟨g,0,none⟩),.string ⟨#[123]⟩] W fun e w'=>e = .returned (.bool false)∧Ext W w'):=fun W x=>by
   have:=is_r x h0 ⟨#[123]⟩;rw[isA_S x h0 (by decide +kernel),hS] at this;exact this
  obtain⟨V,i,pl,dp,h1,-⟩:=h.ex;rw[h0] at h1;obtain⟨c0,c1,c2,c3,c4,c5,c6,zf⟩:=rp_c h1;clear h1 h e1
  go_enter Tryz.func36,Tryz.ntmps36
  go_wp2_with (first
   | (go_at_call 63;refine Calls.mono (zu HI _ ((zu H).ext ((Ext.alloc w _).trans (Ext.alloc _ _)))) ?_;rintro e w1 ⟨rfl,hw⟩;have RB:=zh (hw.row ((Ext.alloc _ _).row (Go.heap_alloc_new w _)));have RN:=zh (hw.row (Go.heap_alloc_new (w.alloc _) _));have X1:=zh (((Ext.alloc w _).trans (Ext.alloc _ _)).trans hw);clear hw)
   | (have T9:=zu X1;go_at_call 61;refine Calls.mono (zu HF _ ((zu H).ext T9)) ?_;rintro e w2 ⟨rfl,hs,hw⟩;have RC:=zh (hw.row (zu RB) (by omega));have RD:=zh (hw.row (zu RN) (by simp;omega));have r0:=zr (zu RC) 0 rfl;have r1:=zr (zu RC) 1 rfl;have r2:=zr (zu RC) 2 rfl;have r3:=zr (zu RC) 3 rfl;have r4:=zr (zu RC) 4 rfl;have rz:=rowF (zu RC);have d0:=zr (zu RD) 0 rfl;have d1:=zr (zu RD) 1 rfl;have d2:=zr (zu RD) 2 rfl;have d3:=zr (zu RD) 3 rfl;have d4:=zr (zu RD) 4 rfl;simp only[size_alloc] at d0 d1 d2 d3 d4;have S2:=zh hs;have X2:=zh ((Gr.of T9).trans hw);clear hw hs T9))
  have hrowF:(set5 w2 w.heap.size 10 0 zE 0 (.slice none 0 0)).heap[w.heap.size]? = some (nodO 10 0 zE 0 (.slice none 0 0)):=set5_row (zu RC) _ _ _ _ _;exact bodyPost_ret (v:=nodV 10 0 zE 0 (.slice none 0 0)) (res_nodR Tryz.results36 _ _ w.heap.size _ _ _ _ _ rfl hrowF) rfl (rnode_end (l:=[]) hg (zu S2) (zu X2) (Nat.le_refl _) trivial (fun _=>rfl))
 ·have he3:(st.e != 0)=true:=by simp[h0]
  have he2:(st.e == 0)=false:=by simpa using h0
  obtain⟨V,i,pl,dp,h1,-⟩:=h.ex;obtain⟨c0,c1,c2,c3,c4,c5,c6,zf⟩:=rp_c h1;clear h1 h e1 h0
  go_enter Tryz.func36,Tryz.ntmps36
  go_wp2_with (go_at_call 61;refine Calls.mono (zu HF _ ((zu H).ext ((Ext.alloc w _).trans (Ext.alloc _ _)))) ?_;rintro e w2 ⟨rfl,hs,hw⟩;have RC:=zh (hw.row ((Ext.alloc _ _).row (Go.heap_alloc_new w _)) (by omega));have RD:=zh (hw.row (Go.heap_alloc_new (w.alloc _) _) (by simp;omega));have r0:=zr (zu RC) 0 rfl;have r1:=zr (zu RC) 1 rfl;have r2:=zr (zu RC) 2 rfl;have r3:=zr (zu RC) 3 rfl;have r4:=zr (zu RC) 4 rfl;have rz:=rowF (zu RC);have d0:=zr (zu RD) 0 rfl;have d1:=zr (zu RD) 1 rfl;have d2:=zr (zu RD) 2 rfl;have d3:=zr (zu RD) 3 rfl;have d4:=zr (zu RD) 4 rfl;simp only[size_alloc] at d0 d1 d2 d3 d4;have S2:=zh hs;have X2:=zh ((Gr.of ((Ext.alloc w _).trans (Ext.alloc _ _))).trans hw);clear hw hs)
  have hrowF:(set5 w2 w.heap.size 10 0 zE 0 (.slice none 0 0)).heap[w.heap.size]? = some (nodO 10 0 zE 0 (.slice none 0 0)):=set5_row (zu RC) _ _ _ _ _;exact bodyPost_ret (v:=nodV 10 0 zE 0 (.slice none 0 0)) (res_nodR Tryz.results36 _ _ w.heap.size _ _ _ _ _ rfl hrowF) rfl (rnode_end (l:=[]) hg (zu S2) (zu X2) (Nat.le_refl _) trivial (fun _=>rfl))
theorem enterRStm (v:Value) (w:World):(callFunc 65 #[v]).run Tryz.prog w = .ok (.enter 65 #[v]) w:=by kernel_rfl
theorem nrm_inB {Q:Exit→Act→World→Prop} {a:Act} {w:World} (h:Q .normal a w):Nrm Q .normal a w:=h
theorem block_some (sm:Rdr) (f:Nat) (hgs:GoodR sm) (hS:st.isS ⟨#[123]⟩=true) (hf:st.ts.length < f) (hf2:f≤100000) (hlt:∀ s:PS,s.ts≠[]→(sm s).2.ts.length < s.ts.length)
  (hend:∀ s:PS,s.e=0→s.ts = []→(sm s).2.e=10∧(sm s).2.pl=len)
  (hsm:∀ s:PS,s.ts.length < st.ts.length→∀ W,Rp W g len T wd s→s.e=0→Calls Tryz.prog 65 #[.pointer (some ⟨g,0,none⟩)] W (RNode W g len T wd (sm s))) (h:Rp w g len T wd st) :
  Calls Tryz.prog 36 #[.pointer (some ⟨g,0,none⟩)] w (RNode w g len T wd (blkP len sm f st)):=by
 have hg:=h.lt;have hne:=isS_ne hS;have hnv:=h.nv;have h0:st.e=0:=by
  cases Decidable.em (st.e=0) with
  | inl h=>exact h
  | inr h9=>exact absurd (hnv.nil h9) hne
 obtain⟨RS,hRS⟩:∃ RS:PN × PS,RS=blkP len sm f st:=⟨_,rfl⟩;rw[← hRS];have e1:RS=(⟨10,0,zE,0,(blkLoop sm f [] (st.enter len).next).1⟩,((blkLoop sm f [] (st.enter len).next).2.sign len ⟨#[125]⟩).leave):=by rw[hRS];unfold blkP;rw[hS];rfl
 have H:=zh h;have n1:=enter_nv hnv len;have k1:=next_kp n1;have n2:=k1.nv n1;have k2:=blkLoop_kp hgs f [] _ n2;have k3:=psign_kp (k2.nv n2) len ⟨#[125]⟩;have kk:=k1.trans (k2.trans k3);have HI:Hd (∀ W,Rp W g len T wd st→Calls Tryz.prog 63 #[.pointer (some ⟨g,0,none⟩),.string ⟨#[123]⟩] W fun e w'=>e = .returned (.bool true)∧Ext W w'):=fun W x=>by
  have:=is_r x h0 ⟨#[123]⟩;rw[isA_S x h0 (by decide +kernel),hS] at this;exact this
 obtain⟨V,i,pl,dp,h1,-⟩:=h.ex;rw[h0] at h1;obtain⟨c0,c1,c2,c3,c4,c5,c6,zf⟩:=rp_c h1;clear h1 h;have IS:True:=trivial;cases he:((st.enter len).e == 0)
 ·have hbe:(st.enter len).e≠0:=by simpa using he
  have hb2:=kk.bad hbe;have HR1:Hd (RS.2.e=(st.enter len).e):=by rw[Hd,e1];exact hb2.1
  have HR2:Hd (RS.2.pl=(st.enter len).pl):=by rw[Hd,e1];exact hb2.2
  have HR3:Hd (RS.2.ts = []):=by rw[Hd,e1];exact kk.nil (by rw[hb2.1];exact hbe)
  have HBE:=zh hbe;have HIn:Hd (∀ W,Rp W g len T wd st→Calls Tryz.prog 64 #[.pointer (some ⟨g,0,none⟩)] W (RAns W g len T wd (.bool false) (st.enter len))):=fun W x=>he ▸ in_r x;clear n1 k1 n2 k2 k3 kk hb2 hbe he hRS e1
  go_enter Tryz.func36,Tryz.ntmps36
  go_wp2_with (first
   | (go_at_call 63;refine Calls.mono (zu HI _ ((zu H).ext ((Ext.alloc w _).trans (Ext.alloc _ _)))) ?_;rintro e w1 ⟨rfl,hw⟩;have RB:=zh (hw.row ((Ext.alloc _ _).row (Go.heap_alloc_new w _)));have RN:=zh (hw.row (Go.heap_alloc_new (w.alloc _) _));have X1:=zh (((Ext.alloc w _).trans (Ext.alloc _ _)).trans hw);clear hw)
   | (have T9:=zu X1;go_at_call 64;refine Calls.mono (zu HIn _ ((zu H).ext T9)) ?_;rintro e w2 ⟨rfl,hs,hw⟩;have RC:=zh (hw.row (zu RB) (by omega));have RD:=zh (hw.row (zu RN) (by simp;omega));have r0:=zr (zu RC) 0 rfl;have r1:=zr (zu RC) 1 rfl;have r2:=zr (zu RC) 2 rfl;have r3:=zr (zu RC) 3 rfl;have r4:=zr (zu RC) 4 rfl;have rz:=rowF (zu RC);have d0:=zr (zu RD) 0 rfl;have d1:=zr (zu RD) 1 rfl;have d2:=zr (zu RD) 2 rfl;have d3:=zr (zu RD) 3 rfl;have d4:=zr (zu RD) 4 rfl;skip;simp only[size_alloc] at d0 d1 d2 d3 d4;have S2:=zh hs;have X2:=zh ((Gr.of T9).trans hw);clear hw hs T9))
  have hrowF:(set5 w2 w.heap.size 10 0 zE 0 (.slice none 0 0)).heap[w.heap.size]? = some (nodO 10 0 zE 0 (.slice none 0 0)):=set5_row (zu RC) _ _ _ _ _;exact bodyPost_ret (v:=nodV 10 0 zE 0 (.slice none 0 0)) (res_nodR Tryz.results36 _ _ w.heap.size _ _ _ _ _ rfl hrowF) rfl (rnode_end (l:=[]) hg ((zu S2).as2 (zu HBE) (zu HR1) (zu HR2) (zu HR3)) (zu X2) (Nat.le_refl _) trivial (fun e=>absurd ((zu HR1).symm.trans e) (zu HBE)))
 ·have hbe:(st.enter len).e=0:=by simpa using he
  have hup:=(enter_ok hbe).2;have hets:(st.enter len).ts=st.ts:=by rw[hup];rfl
  have heop:(st.enter len).op=wrap64 (st.op+1):=by rw[hup];rfl
  have hrg:=hnv.rng h0;have HIn:Hd (∀ W,Rp W g len T wd st→Calls Tryz.prog 64 #[.pointer (some ⟨g,0,none⟩)] W (RAns W g len T wd (.bool true) (st.enter len))):=fun W x=>he ▸ in_r x;have hn1:(st.enter len).next.ts.length < st.ts.length:=by rw[← hets];exact next_lt_of (by rw[hets];exact hne)
  have hes2:(st.enter len).next.e=0:=hbe;have HKK:=zh kk;obtain⟨F,hF⟩:∃ F,F=blkLoop sm f [] (st.enter len).next:=⟨_,rfl⟩;rw[← hF] at e1 kk HKK;have HRS:=zh e1;have HF:=zh hF;have HX:=zh hsm;have HLT:=zh hlt;have HEND:=zh hend;have HGS:=zh hgs;clear n1 k1 n2 k2 k3 kk he hRS hup e1 hF hsm hlt hend hgs;obtain⟨i0,hi,hz0,hz1,hz2⟩:=info_parts infoN;have HIN:=zh hi;have Z0:=zh hz0;have Z1:=zh hz1;have Z2:=zh hz2;clear hi hz0 hz1 hz2
  go_enter Tryz.func36,Tryz.ntmps36
  go_wp2_with (first
   | (go_at_call 63;refine Calls.mono (zu HI _ ((zu H).ext ((Ext.alloc w _).trans (Ext.alloc _ _)))) ?_;rintro e w1 ⟨rfl,hw⟩;have RB:=zh (hw.row ((Ext.alloc _ _).row (Go.heap_alloc_new w _)));have RN:=zh (hw.row (Go.heap_alloc_new (w.alloc _) _));have X1:=zh (((Ext.alloc w _).trans (Ext.alloc _ _)).trans hw);clear hw)
   | (have T9:=zu X1;go_at_call 64;refine Calls.mono (zu HIn _ ((zu H).ext T9)) ?_;rintro e w2 ⟨rfl,hs,hw⟩;have RC:=zh (hw.row (zu RB) (by omega));have RD:=zh (hw.row (zu RN) (by simp;omega));have G2:=zh ((Gr.of T9).trans hw);obtain⟨i4,c1,hi4,hstep⟩:=hs.step hbe (by rw[hets];exact hne);obtain⟨V4,i5,pl4,dp4,hrow4,-⟩:=hs.ex;have zf:=rowF hrow4;have HStep:=zh hstep;clear hw hs T9 hstep hrow4))
  obtain⟨W3,hW3⟩:∃ W3,W3=w2.setCell ⟨g,1,none⟩ (.int .i64 ((i4:Int)+1)):=⟨_,rfl⟩;have MI:Hd (RBkI g len T wd sm w W3 F (st.enter len).next f [] [] none 0):=by
   refine⟨Or.inl (zu HF),fun _=>rfl,fun _=>by omega,fun _=>by simp;omega,hg,?_,?_,?_,?_,HoldB.nil _ _⟩
   ·rw[hW3];exact zu HStep w2 (Gr.refl _ _) rfl
   ·rw[hW3];exact(zu G2).set (p:=⟨g,_,none⟩) (Or.inr rfl) _
   ·rw[hW3];exact row_other (zu RC) (by show w.heap.size≠g;omega) _ _
   ·rw[hW3];refine row_other ?_ (by show w.heap.size+1≠g;omega) _ _
    have h:=zu RD;rw[size_alloc] at h;exact h
  rw[← hW3];clear RB RN X1 RC RD G2 c0 c1 c2 c3 c4 c5 c6 zf HStep HF HIn HI H hW3;generalize (st.enter len).next=st3 at *
  go_loopw [] (fun wr => ∃ (acc ps:List PN) (ao:Option Addr) (cap:Nat) (stc:PS) (j:Nat),Hd (RBkI g len T wd sm w wr F stc j acc ps ao cap)∧stc.ts.length < st.ts.length) (fun wr=>rleft g T.length wr)
  case atStart=>exact⟨_,_,_,_,st3,f,MI,hn1⟩
  case round =>
   clear MI;obtain⟨acc,ps,ao,cap,stc,j,hM,hle⟩:=hrel;have hnvc:=(zu hM).rs.nv;obtain⟨V,i,pl,dp,hrow,-⟩:=(zu hM).rs.ex;have hwr3:w.heap.size+1 < wr.heap.size:=(Array.getElem?_eq_some_iff.1 (zu hM).r3).1;by_cases hec:stc.e=0
   ·have hfu:=(zu hM).fuel hec
    have hbd:=(zu hM).bnd hec;obtain⟨j,rfl⟩:∃ i,j=i+1:=⟨j - 1,by omega⟩;rw[hec] at hrow;obtain⟨c0,c1,c2,c3,c4,c5,c6,zf⟩:=rp_c hrow;have HIs:Hd (Calls Tryz.prog 63 #[.pointer (some ⟨g,0,none⟩),.string ⟨#[125]⟩] wr fun e w'=>e = .returned (.bool (stc.isS ⟨#[125]⟩))∧Ext wr w'):=by
     have:=is_r (zu hM).rs hec ⟨#[125]⟩;rw[isA_S (zu hM).rs hec (by decide +kernel)] at this;exact this
    cases hb:stc.isS ⟨#[125]⟩
    ·rw[hb] at HIs
     have HX1:=zh (fun (W:World) (x:Rp W g len T wd stc)=>zu HX stc hle W x hec);have hm0:=rleft_eq (zu hM).rs;rw[if_pos hec] at hm0;have hE:F=blkLoop sm (j+1) acc stc:=by
      rcases (zu hM).eq with h | h
      ·exact h
      ·exact absurd hec h.1
     have hnpc:=(zu hM).np hec;have hkp:=zu HGS stc hnvc;have hEq:∀ (p5:PN),((sm stc).2.e=0→p5=(sm stc).1)→BkEq len sm F j (acc++[(sm stc).1]) (sm stc).2∧((sm stc).2.e=0→ps++[p5]=acc++[(sm stc).1])∧((sm stc).2.e=0→(sm stc).2.ts.length < j)∧((sm stc).2.e=0→ps.length+1+(sm stc).2.ts.length≤100001)∧(sm stc).2.ts.length < st.ts.length∧(if (sm stc).2.e=0 then 1+(sm stc).2.ts.length else 0) < 1+stc.ts.length:=by
      intro p5 hp5;by_cases hts:stc.ts = []
      ·obtain⟨q1,q2⟩:=zu HEND stc hec hts
       have q3:=hkp.nil (by rw[q1];decide);have hstop:stc.stop=true:=by unfold PS.stop;rw[hts];rfl
       have hF:F=(acc,stc):=by rw[hE,blkLoop,hstop];rfl
       have hsg:stc.sign len ⟨#[125]⟩=stc.fail len 10:=by unfold PS.sign;rw[hb];rfl
       have hfl:stc.fail len 10=⟨[],stc.op,len,10⟩:=by unfold PS.fail;rw[if_pos hec];unfold PS.here;rw[hts]
       refine⟨Or.inr ⟨by rw[q1];decide,?_,?_⟩,fun e=>absurd (q1.symm.trans e) (by decide),fun e=>absurd (q1.symm.trans e) (by decide),fun e=>absurd (q1.symm.trans e) (by decide),by rw[q3];simp;omega,by rw[q1,if_neg (by decide)];omega⟩
       ·rw[hF];show (stc.sign len ⟨#[125]⟩).e=_;rw[hsg,hfl,q1]
       ·rw[hF];show (stc.sign len ⟨#[125]⟩).pl=_;rw[hsg,hfl,q2]
      ·have hl1:=zu HLT stc hts
       have hstop:stc.stop=false:=by
        unfold PS.stop;rw[hb,Bool.or_false];have:=List.length_pos_iff.2 hts;simp;exact hts
       refine⟨Or.inl (by rw[hE,blkLoop,hstop];rfl),fun e=>by rw[hnpc,hp5 e],fun _=>by omega,fun _=>by omega,by omega,?_⟩
       split <;> omega
     have HEq:=zh hEq;clear hEq hE hnpc hkp hb;obtain⟨xs,hx⟩:=(zu hM).hold.own;have HXS:=zh (fun w2 (x:Gr g wr w2)=>heldB_on hx x (by omega));clear hx hrow;generalize sm stc=q at HX1 HEq;obtain⟨qn,st5⟩:=q;generalize hA:ps.length=A at *
     go_wp2_with (go_at_call 63;refine Calls.mono (zu HIs) ?_;rintro e w4 ⟨rfl,hw⟩;have X4:=zh hw;have RF:=zh (hw.row (zu hM).r3);have d0:=zr (zu RF) 0 rfl;have d1:=zr (zu RF) 1 rfl;have d2:=zr (zu RF) 2 rfl;have d3:=zr (zu RF) 3 rfl;have d4:=zr (zu RF) 4 rfl;have dz:=rowF (zu RF);have hb4:wr.heap.size≤w4.heap.size:=hw.le;clear hw)
     have D0:Hd (Gr g wr w4.drew):=(Gr.of (zu X4)).drew;have D1:Hd (Rp w4.drew g len T wd stc):=(zu hM).rs.ext (Ext.drew (zu X4));have HX2:=zh (zu HX1 _ (zu D1));refine wp_nrm ?_
     first | skip;go_region_law (first
      | (refine step_call_one rfl 65 (.tmp 41) 65 rfl _ (by simp[Act.eval,Act.put]) (enterRStm _ _) (Calls.mono (zu HX2) ?_);rintro e w5 ⟨v,p5,rfl,hr,hp,hs,hw⟩;obtain⟨k,o,s,n,l⟩:=p5;rw[RepN] at hr;obtain⟨a,c,rfl,hcap,hl⟩:=hr;have X5:=zh ((zu D0).trans hw);have RG:=zh ((zu X5).row (zu hM).r3 (by omega));have d0:=zr (zu RG) 0 rfl;have d1:=zr (zu RG) 1 rfl;have d2:=zr (zu RG) 2 rfl;have d3:=zr (zu RG) 3 rfl;have d4:=zr (zu RG) 4 rfl;have S5:=zh hs;have P5:=zh hp;have L5:Hd (RepNL w5 (Fr wr.heap.size w5.heap.size) l a):=RepNL.to (fun b hb=>⟨⟨Nat.le_trans hb4 hb.1,hb.2⟩,rfl⟩) _ _ hl;have hb5:w.heap.size+1 < w5.heap.size:=(Array.getElem?_eq_some_iff.1 (zu RG)).1;clear hw hs hl hp;refine⟨_,rfl,?_⟩)
      | (refine step_append_where rfl (.tmp 40) (.tmp 43) 44 rfl (w.heap.size+2) 46 i0 (nodV 0 0 zE 0 (.slice none 0 0)) 5 64 Tryz.underlying44 (zu HIN) (zu Z0) (zu Z1) (zu Z2) rfl (by decide) ao A cap xs (by simp[Act.eval,Act.put]) (zu HXS _ ((zu X5).alloc _)).1 ⟨w5.heap.size,0,none⟩ 1 1 [.int .i64 k,.int .i64 o,.string s,.int .i64 n,.slice a l.length c] (by simp[Act.eval,Act.put]) (by decide) rfl (cells_new w5 _ _) (one_cells _ _ _ _ _ _ _) (by unfold maxLen;omega) (by omega) (by simp;omega) ?_;intro g2 cap6 w6 ho6 hg6 hw6;have RZ:=zh ((below_grown (zu HXS _ ((zu X5).alloc _)).1 hg6 (w.heap.size+1) (by omega) (by simp;omega)).trans ((Ext.alloc _ _).row (zu RG)));have z0:=zr (zu RZ) 0 rfl;have z1:=zr (zu RZ) 1 rfl;have z2:=zr (zu RZ) 2 rfl;have z3:=zr (zu RZ) 3 rfl;have z4:=zr (zu RZ) 4 rfl;have zz:=rowF (zu RZ);have HO6:=zh ho6;have HG6:=zh hg6;have HW6:=zh hw6;clear ho6 hg6 hw6)) | fail
     all_goals
      subst hA;obtain⟨v1,v2,v3,v4,v5,v6⟩:=zu HEq _ (zu P5);have hN:=RBkI.snoc (k:=k) (o:=o) (n:=n) (s:=s) (zu hM) v1 v2 v3 v4 (zu X5) (zu S5) hcap (zu L5) _ (zu HXS _ ((zu X5).alloc _)) (zu HO6) (zu HG6) (by have h:=zu HW6;rw[size_alloc] at h;exact h);refine nrm_inB ?_;have MN:=zh hN;have hm1:=rleft_eq hN.rs;clear hN
      go_wp2_with fail
      go_roundw
      case rel=>exact⟨_,_,_,_,st5,j,MN,v5⟩
      case measure=>rw[hm0];exact Nat.lt_of_le_of_lt (Nat.le_of_eq hm1) v6
    ·rw[hb] at HIs
     have hstop:stc.stop=true:=by unfold PS.stop;rw[hb,Bool.or_true]
     have hE:F=blkLoop sm (j+1) acc stc:=by
      rcases (zu hM).eq with h | h
      ·exact h
      ·exact absurd hec h.1
     have hnpc:=(zu hM).np hec;have hF:F=(ps,stc):=by rw[hE,blkLoop,hstop,hnpc];rfl
     have HG:=zh (fun (W:World) (x:Rp W g len T wd stc)=>want_s x ⟨#[125]⟩ (by decide +kernel));have HOP:Hd ((stc.sign len ⟨#[125]⟩).e=0→1≤(stc.sign len ⟨#[125]⟩).op):=fun e=>by
      have h9:=zu HKK;rw[hF] at h9;have:=(h9.ok e).2;rw[this,heop];unfold wrap64;omega
     have HRS2:Hd (RS=(⟨10,0,zE,0,ps⟩,(stc.sign len ⟨#[125]⟩).leave)):=by rw[Hd,zu HRS,hF]
     have hwg:(w.heap.size == g)=false:=by simp;omega
     have hwg1:(w.heap.size+1 == g)=false:=by simp;omega
     clear hE hnpc hF hstop hb hrow;generalize hA:ps.length=A at *
     go_wp2_with (first
      | (go_at_call 63;refine Calls.mono (zu HIs) ?_;rintro e w4 ⟨rfl,hw⟩;have XX:=zh (Gr.of (g:=g) hw);have S4:=zh ((zu hM).rs.ext hw);clear hw)
      | (have T9:=zu S4;go_at_call 33;refine Calls.mono (zu HG _ T9) ?_;rintro e w6 ⟨rfl,hs,hw⟩;have X6:=zh ((zu XX).trans hw);have RE:=zh ((zu X6).row (zu hM).r2 (by omega));have RQ:=zh ((zu X6).row (zu hM).r3 (by omega));have r0:=zr (zu RE) 0 rfl;have r1:=zr (zu RE) 1 rfl;have r2:=zr (zu RE) 2 rfl;have r3:=zr (zu RE) 3 rfl;have r4:=zr (zu RE) 4 rfl;have rz:=rowF (zu RE);have q0:=zr (zu RQ) 0 rfl;have q1:=zr (zu RQ) 1 rfl;have q2:=zr (zu RQ) 2 rfl;have q3:=zr (zu RQ) 3 rfl;have q4:=zr (zu RQ) 4 rfl;have qz:=rowF (zu RQ);obtain⟨dp6,c4,hshut⟩:=hs.shut (zu HOP);obtain⟨V6,i6,pl6,dpx,hrow6,-⟩:=hs.ex;have zf:=rowF hrow6;have HShut:=zh hshut;have hb56:w.heap.size+1 < w6.heap.size:=(Array.getElem?_eq_some_iff.1 (zu RQ)).1;clear hw hs hshut hrow6 T9))
     subst hA;obtain⟨W7,hW7⟩:∃ W7,W7=w6.setCell ⟨g,4,none⟩ (.int .i64 (wrap64 (dp6 - 1))):=⟨_,rfl⟩;have hS7:=zu HShut w6 (Gr.refl _ _) rfl;rw[← hW7] at hS7 ⊢;have hG67:Gr g w6 W7:=by rw[hW7];exact(Gr.refl _ _).set (p:=⟨g,_,none⟩) (Or.inr rfl) _
     have hrowF:(set5 W7 w.heap.size 10 0 zE 0 (.slice ao ps.length cap)).heap[w.heap.size]? = some (nodO 10 0 zE 0 (.slice ao ps.length cap)):=set5_row (hG67.row (zu RE) (by omega)) _ _ _ _ _;obtain⟨d1,d2⟩:=((zu hM).hold.on ((zu X6).trans hG67) (by omega)).done;exact bodyPost_ret (v:=nodV 10 0 zE 0 (.slice ao ps.length cap)) (res_nodR Tryz.results36 _ _ w.heap.size _ _ _ _ _ rfl hrowF) rfl (rnode_end hg (by rw[zu HRS2];exact hS7) (((zu hM).gr.trans (zu X6)).trans hG67) d1 (RepNL.to (fun b hb=>⟨⟨by have:=hb.1;omega,hb.2⟩,rfl⟩) _ _ d2) (fun _=>by rw[zu HRS2]))
   ·have he2:(stc.e == 0)=false:=by simpa using hec
    have hts:=hnvc.nil hec;have hsg:stc.sign len ⟨#[125]⟩=stc.fail len 10:=by unfold PS.sign;rw[isS_nil hts];rfl
    have hfl:stc.fail len 10=⟨[],stc.op,stc.pl,stc.e⟩:=by unfold PS.fail;rw[if_neg hec]
    have hEE:(F.2.sign len ⟨#[125]⟩).e=stc.e∧(F.2.sign len ⟨#[125]⟩).pl=stc.pl:=by
     rcases (zu hM).eq with h | h
     ·have hF2:F.2=stc:=by
       rw[h];cases j with
       | zero=>rfl
       | succ j =>
        have hstop:stc.stop=true:=by unfold PS.stop;rw[hts];rfl
        rw[blkLoop,hstop];rfl
      rw[hF2,hsg,hfl];exact⟨rfl,rfl⟩
     ·exact h.2
    have HE1:Hd (RS.2.e=(stc.sign len ⟨#[125]⟩).leave.e):=by rw[Hd,zu HRS,hsg,hfl];exact hEE.1
    have HE2:Hd (RS.2.pl=(stc.sign len ⟨#[125]⟩).leave.pl):=by rw[Hd,zu HRS,hsg,hfl];exact hEE.2
    have HE3:Hd (RS.2.ts = []):=by
     have h9:=zu HKK;rw[Hd,zu HRS];exact h9.nil (by rw[hEE.1];exact hec)
    have HEN:Hd ((stc.sign len ⟨#[125]⟩).leave.e≠0):=by rw[Hd,hsg,hfl];exact hec
    have HG:=zh (fun (W:World) (x:Rp W g len T wd stc)=>want_s x ⟨#[125]⟩ (by decide +kernel));have HOP:Hd ((stc.sign len ⟨#[125]⟩).e=0→1≤(stc.sign len ⟨#[125]⟩).op):=fun e=>by rw[hsg,hfl] at e;exact absurd e hec
    obtain⟨c0,c1,c2,c3,c4,c5,c6,zf⟩:=rp_c hrow;have XX:Hd (Gr g wr wr):=Gr.refl _ _;have S4:=zh (zu hM).rs;have hwg:(w.heap.size == g)=false:=by simp;omega
    have hwg1:(w.heap.size+1 == g)=false:=by simp;omega
    clear hrow hsg hfl hEE hec;generalize hA:ps.length=A at *
    go_wp2_with (have T9:=zu S4;go_at_call 33;refine Calls.mono (zu HG _ T9) ?_;rintro e w6 ⟨rfl,hs,hw⟩;have X6:=zh ((zu XX).trans hw);have RE:=zh ((zu X6).row (zu hM).r2 (by omega));have RQ:=zh ((zu X6).row (zu hM).r3 (by omega));have r0:=zr (zu RE) 0 rfl;have r1:=zr (zu RE) 1 rfl;have r2:=zr (zu RE) 2 rfl;have r3:=zr (zu RE) 3 rfl;have r4:=zr (zu RE) 4 rfl;have rz:=rowF (zu RE);have q0:=zr (zu RQ) 0 rfl;have q1:=zr (zu RQ) 1 rfl;have q2:=zr (zu RQ) 2 rfl;have q3:=zr (zu RQ) 3 rfl;have q4:=zr (zu RQ) 4 rfl;have qz:=rowF (zu RQ);obtain⟨dp6,c4,hshut⟩:=hs.shut (zu HOP);obtain⟨V6,i6,pl6,dpx,hrow6,-⟩:=hs.ex;have zf:=rowF hrow6;have HShut:=zh hshut;have hb56:w.heap.size+1 < w6.heap.size:=(Array.getElem?_eq_some_iff.1 (zu RQ)).1;clear hw hs hshut hrow6 T9)
    subst hA;obtain⟨W7,hW7⟩:∃ W7,W7=w6.setCell ⟨g,4,none⟩ (.int .i64 (wrap64 (dp6 - 1))):=⟨_,rfl⟩;have hS7:=zu HShut w6 (Gr.refl _ _) rfl;rw[← hW7] at hS7 ⊢;have hG67:Gr g w6 W7:=by rw[hW7];exact(Gr.refl _ _).set (p:=⟨g,_,none⟩) (Or.inr rfl) _
    have hrowF:(set5 W7 w.heap.size 10 0 zE 0 (.slice ao ps.length cap)).heap[w.heap.size]? = some (nodO 10 0 zE 0 (.slice ao ps.length cap)):=set5_row (hG67.row (zu RE) (by omega)) _ _ _ _ _;obtain⟨d1,d2⟩:=((zu hM).hold.on ((zu X6).trans hG67) (by omega)).done;exact bodyPost_ret (v:=nodV 10 0 zE 0 (.slice ao ps.length cap)) (res_nodR Tryz.results36 _ _ w.heap.size _ _ _ _ _ rfl hrowF) rfl (rnode_end hg (hS7.as2 (zu HEN) (zu HE1) (zu HE2) (zu HE3)) (((zu hM).gr.trans (zu X6)).trans hG67) d1 (RepNL.to (fun b hb=>⟨⟨by have:=hb.1;omega,hb.2⟩,rfl⟩) _ _ d2) (fun e=>absurd ((zu HE1).symm.trans e) (zu HEN)))
end
section
def Ends (len:Nat) (rd:Rdr):Prop:=∀ st:PS,st.ts = []→st.e=0→(rd st).2=st.fail len 10
theorem loop_end {lv:Int} {sub:Rdr}:∀ (f:Nat) (p:PN) (st:PS),st.ts = []→(loopP lv sub f p st).2=st
 | 0,p,st,_=>rfl
 | f+1,p,st,h=>by rw[loopP,takeO_nil h]
theorem lev_end {len:Nat} {lv:Int} {sub:Rdr} (h:Ends len sub) (f:Nat):Ends len (levP lv sub f):=fun st ht he=>by
 unfold levP;rw[h st ht he];exact loop_end f _ _ (fail_ts _ _ _)
theorem cmp_end {len:Nat} {sub:Rdr} (h:Ends len sub):Ends len (cmpP sub):=fun st ht he=>by
 unfold cmpP;rw[h st ht he,takeO_nil (fail_ts _ _ _)]
theorem oper_nil {st:PS} (h:st.ts = []) (lv:Int):st.oper lv=none:=by
 unfold PS.oper;rw[hd_nil h];rfl
theorem sgl_end (len:Nat) (ex:Rdr) (f:Nat):Ends len (sglP len ex f):=fun st ht he=>by
 unfold sglP;have hc:st.isCall=false:=by unfold PS.isCall;rw[hd_nil ht];rfl
 rw[isS_nil ht,isS_nil ht,isW_nil ht,hc];unfold litP;rw[hd_nil ht];rfl
theorem ix_end {len:Nat} {ex:Rdr}:∀ (f:Nat) (p:PN) (st:PS),st.ts = []→(ixLoopP len ex f p st).2=st
 | 0,p,st,_=>rfl
 | f+1,p,st,h=>by rw[ixLoopP,oper_nil h]
theorem idx_end (len:Nat) (ex:Rdr) (f:Nat):Ends len (idxP len ex f):=fun st ht he=>by
 unfold idxP;rw[sgl_end len ex f st ht he];exact ix_end f _ _ (fail_ts _ _ _)
theorem sgn_end (len:Nat) (sg ex:Rdr) (f:Nat):Ends len (sgnP len sg ex f):=fun st ht he=>by
 unfold sgnP;rw[oper_nil ht];exact idx_end len ex f st ht he
theorem ex_end (len f:Nat):Ends len (exP len (f+1)):=by
 have e2:exP len (f+1)=orP (sgnP len (bothP len f).1 (bothP len f).2 (f+1)) (f+1):=by unfold exP;rw[bothP]
 rw[e2];exact lev_end (lev_end (cmp_end (lev_end (lev_end (sgn_end len _ _ _) _) _)) _) _
theorem stm_end {len:Nat} {ex bl ch:Rdr} (h:Ends len ex) (st:PS) (he:st.e=0) (ht:st.ts = []):(stmP len ex bl ch st).2.e=10∧(stmP len ex bl ch st).2.pl=len:=by
 have hs:st.isSet=false:=by unfold PS.isSet;rw[hd_nil ht];rfl
 unfold stmP;rw[isW_nil ht,hs,isW_nil ht,isW_nil ht,isW_nil ht,isW_nil ht,isW_nil ht,isW_nil ht];simp only[Bool.false_eq_true,if_false];unfold ofExP;simp only;rw[h st ht he];have hf:st.fail len 10=⟨[],st.op,len,10⟩:=by unfold PS.fail;rw[if_pos he];unfold PS.here;rw[ht]
 rw[hf];exact⟨rfl,rfl⟩
end
section
variable {w w':World} {g len:Nat} {T:List Tk} {wd:Int} {st:PS}
theorem onlyW {st:PS} {s t:ByteArray} (h:st.isW s=true) (hne:(s.toList == t.toList)=false):st.isW t=false:=by
 unfold PS.isW isT at h ⊢;rw[Bool.and_eq_true] at h;have h2:(hdT st.ts 0).t.toList=s.toList:=by simpa using h.2
 rw[h2,hne,Bool.and_false]
theorem notSet {st:PS} {s:ByteArray} (h:st.isW s=true):st.isSet=false:=by
 unfold PS.isW isT at h;rw[Bool.and_eq_true] at h;have h2:(hdT st.ts 0).k=2:=by simpa using h.1
 unfold PS.isSet;rw[h2];rfl
theorem take_no (h:Rp w g len T wd st) (s:ByteArray) (hs:(o2 s.toList || o1 s.toList)=false) (hW:st.isW s=false):Calls Tryz.prog 35 #[.pointer (some ⟨g,0,none⟩),.string s] w (RAns w g len T wd (.bool false) st):=by
 have:=take_w h s hs;have e:st.takeW s=(false,st):=by unfold PS.takeW;rw[hW];rfl
 rw[e] at this;exact this
theorem take_yes (h:Rp w g len T wd st) (s:ByteArray) (hs:(o2 s.toList || o1 s.toList)=false) (hW:st.isW s=true):Calls Tryz.prog 35 #[.pointer (some ⟨g,0,none⟩),.string s] w (RAns w g len T wd (.bool true) st.next):=by
 have:=take_w h s hs;have e:st.takeW s=(true,st.next):=by unfold PS.takeW;rw[hW];rfl
 rw[e] at this;exact this
theorem is_no (h:Rp w g len T wd st) (h0:st.e=0) (s:ByteArray) (hs:(o2 s.toList || o1 s.toList)=false) (hW:st.isW s=false):Calls Tryz.prog 63 #[.pointer (some ⟨g,0,none⟩),.string s] w fun e w'=>e = .returned (.bool false)∧Ext w w':=by
 have:=is_r h h0 s;rw[isA_W h h0 hs,hW] at this;exact this
theorem stmt_break (ex bl ch:Rdr) (h0:st.e=0) (hW:st.isW ⟨#[98,114,101,97,107]⟩=true) (h:Rp w g len T wd st) :
  Calls Tryz.prog 65 #[.pointer (some ⟨g,0,none⟩)] w (RNode w g len T wd (stmP len ex bl ch st)):=by
 have hg:=h.lt;have w_if:st.isW ⟨#[105,102]⟩=false:=onlyW hW (by decide +kernel);have w_while:st.isW ⟨#[119,104,105,108,101]⟩=false:=onlyW hW (by decide +kernel);have w_let:st.isW ⟨#[108,101,116]⟩=false:=onlyW hW (by decide +kernel);have w_continue:st.isW ⟨#[99,111,110,116,105,110,117,101]⟩=false:=onlyW hW (by decide +kernel);have w_return:st.isW ⟨#[114,101,116,117,114,110]⟩=false:=onlyW hW (by decide +kernel);have w_print:st.isW ⟨#[112,114,105,110,116]⟩=false:=onlyW hW (by decide +kernel);have e1:stmP len ex bl ch st=(⟨5,0,zE,0,[]⟩,st.next.sign len ⟨#[59]⟩):=by
  unfold stmP;rw[w_let,notSet hW,w_if,w_while,hW];rfl
 rw[e1];have H:=zh h;have HIf:=zh (fun (W:World) (x:Rp W g len T wd st)=>is_no x h0 ⟨#[105,102]⟩ (by decide +kernel) w_if);have HT_while:=zh (fun (W:World) (x:Rp W g len T wd st)=>take_no x ⟨#[119,104,105,108,101]⟩ (by decide +kernel) w_while);have HT_let:=zh (fun (W:World) (x:Rp W g len T wd st)=>take_no x ⟨#[108,101,116]⟩ (by decide +kernel) w_let);have HTy:=zh (fun (W:World) (x:Rp W g len T wd st)=>take_yes x ⟨#[98,114,101,97,107]⟩ (by decide +kernel) hW);have HG:=zh (fun (W:World) (x:Rp W g len T wd st.next)=>want_s x ⟨#[59]⟩ (by decide +kernel));have hwg:(w.heap.size == g)=false:=by simp;omega
 have hwg1:(w.heap.size+1 == g)=false:=by simp;omega
 clear h e1
 go_enter Tryz.func65,Tryz.ntmps65
 go_wp2_with (first
  | (go_at_call 63;refine Calls.mono (zu HIf _ ((zu H).ext ((Ext.alloc w _).trans (Ext.alloc _ _)))) ?_;rintro e w0 ⟨rfl,hw⟩;have RB0:=zh (hw.row ((Ext.alloc _ _).row (Go.heap_alloc_new w _)));have RN0:=zh (hw.row (Go.heap_alloc_new (w.alloc _) _));have G0:=zh ((Gr.of ((Ext.alloc w _).trans (Ext.alloc _ _))).trans (Gr.of (g:=g) hw));have S0:=zh ((zu H).ext (((Ext.alloc w _).trans (Ext.alloc _ _)).trans hw));clear hw)
  | (have T9:=zu S0;go_at_call 35;refine Calls.mono (zu HT_while _ T9) ?_;rintro e w1 ⟨rfl,hs,hw⟩;have RB1:=zh (hw.row (zu RB0) (by omega));have RN1:=zh (hw.row (zu RN0) (by simp;omega));have G1:=zh ((zu G0).trans hw);have S1:=zh hs;clear hw hs T9 S0 RB0 RN0 G0)
  | (have T9:=zu S1;go_at_call 35;refine Calls.mono (zu HT_let _ T9) ?_;rintro e w2 ⟨rfl,hs,hw⟩;have RB2:=zh (hw.row (zu RB1) (by omega));have RN2:=zh (hw.row (zu RN1) (by simp;omega));have G2:=zh ((zu G1).trans hw);have S2:=zh hs;clear hw hs T9 S1 RB1 RN1 G1)
  | (have T9:=zu S2;go_at_call 35;refine Calls.mono (zu HTy _ T9) ?_;rintro e wy ⟨rfl,hs,hw⟩;have RBy:=zh (hw.row (zu RB2) (by omega));have RNy:=zh (hw.row (zu RN2) (by simp;omega));have Gy:=zh ((zu G2).trans hw);have d0:=zr (zu RNy) 0 rfl;have d1:=zr (zu RNy) 1 rfl;have d2:=zr (zu RNy) 2 rfl;have d3:=zr (zu RNy) 3 rfl;have d4:=zr (zu RNy) 4 rfl;have dz:=rowF (zu RNy);simp only[size_alloc] at d0 d1 d2 d3 d4 dz;have hyy:w.heap.size+1 < wy.heap.size:=(by have:=(Array.getElem?_eq_some_iff.1 (zu RNy)).1;rw[size_alloc] at this;exact this);have Sy:=zh hs;clear hw hs T9 S2 RB2 RN2 G2))
 obtain⟨WZ,hWZ⟩:∃ WZ,WZ=wy.setCell ⟨w.heap.size+1,0,none⟩ (.int .i64 5):=⟨_,rfl⟩;have hSZ:Rp WZ g len T wd st.next:=by
  rw[hWZ];obtain⟨V,i,pl,dp,h1,⟨a2,cap2,rfl,q1,q2,q3⟩,h3⟩:=(zu Sy).ex;refine⟨⟨_,i,pl,dp,row_other h1 (by omega) _ _,⟨a2,cap2,rfl,q1,q2,?_⟩,h3⟩,(zu Sy).nv,(zu Sy).tk,(zu Sy).tl⟩;rcases q3 with q3 | ⟨b',off,rfl,hb',hcc⟩
  ·exact Or.inl q3
  ·refine Or.inr ⟨b',off,rfl,hb',fun j u hu => ?_⟩
   rw[World.cell?_of_block (w:=wy) (Below.heap_setCell wy ⟨w.heap.size+1,0,none⟩ _ b' (by show b'≠w.heap.size+1;omega))];exact hcc j u hu
 have hNZ:WZ.heap[w.heap.size+1]? = some (nodO 5 0 zE 0 (.slice none 0 0)):=by
  rw[hWZ];have h:=zu RNy;rw[size_alloc] at h;exact row_set h 0 (.int .i64 5)
 have hBZ:WZ.heap[w.heap.size]? = some (nodO 0 0 zE 0 (.slice none 0 0)):=by rw[hWZ];exact row_other (zu RBy) (by show w.heap.size≠w.heap.size+1;omega) _ _
 have hGZ:Gr g w WZ:=by rw[hWZ];exact(zu Gy).set (p:=⟨w.heap.size+1,_,none⟩) (Or.inl (by show w.heap.size≤w.heap.size+1;omega)) _
 rw[← hWZ];have SZ:=zh hSZ;have NZ:=zh hNZ;have BZ:=zh hBZ;have GZ:=zh hGZ;clear hWZ hSZ hNZ hBZ hGZ RBy RNy Gy Sy d0 d1 d2 d3 d4 dz
 go_wp2_with (have T9:=zu SZ;go_at_call 33;refine Calls.mono (zu HG _ T9) ?_;rintro e w6 ⟨rfl,hs,hw⟩;have RE:=zh (hw.row (zu BZ) (by omega));have RQ:=zh (hw.row (zu NZ) (by omega));have r0:=zr (zu RE) 0 rfl;have r1:=zr (zu RE) 1 rfl;have r2:=zr (zu RE) 2 rfl;have r3:=zr (zu RE) 3 rfl;have r4:=zr (zu RE) 4 rfl;have rz:=rowF (zu RE);have q0:=zr (zu RQ) 0 rfl;have q1:=zr (zu RQ) 1 rfl;have q2:=zr (zu RQ) 2 rfl;have q3:=zr (zu RQ) 3 rfl;have q4:=zr (zu RQ) 4 rfl;have qz:=rowF (zu RQ);have S6:=zh hs;have G6:=zh ((zu GZ).trans hw);clear hw hs T9)
 have hrowF:(set5 w6 w.heap.size 5 0 zE 0 (.slice none 0 0)).heap[w.heap.size]? = some (nodO 5 0 zE 0 (.slice none 0 0)):=set5_row (zu RE) _ _ _ _ _;exact bodyPost_ret (v:=nodV 5 0 zE 0 (.slice none 0 0)) (res_nodR Tryz.results65 _ _ w.heap.size _ _ _ _ _ rfl hrowF) rfl (rnode_end (l:=[]) hg (zu S6) (zu G6) (Nat.le_refl _) trivial (fun _=>rfl))
theorem stmt_continue (ex bl ch:Rdr) (h0:st.e=0) (hW:st.isW ⟨#[99,111,110,116,105,110,117,101]⟩=true) (h:Rp w g len T wd st) :
  Calls Tryz.prog 65 #[.pointer (some ⟨g,0,none⟩)] w (RNode w g len T wd (stmP len ex bl ch st)):=by
 have hg:=h.lt;have w_if:st.isW ⟨#[105,102]⟩=false:=onlyW hW (by decide +kernel);have w_while:st.isW ⟨#[119,104,105,108,101]⟩=false:=onlyW hW (by decide +kernel);have w_let:st.isW ⟨#[108,101,116]⟩=false:=onlyW hW (by decide +kernel);have w_break:st.isW ⟨#[98,114,101,97,107]⟩=false:=onlyW hW (by decide +kernel);have w_return:st.isW ⟨#[114,101,116,117,114,110]⟩=false:=onlyW hW (by decide +kernel);have w_print:st.isW ⟨#[112,114,105,110,116]⟩=false:=onlyW hW (by decide +kernel);have e1:stmP len ex bl ch st=(⟨6,0,zE,0,[]⟩,st.next.sign len ⟨#[59]⟩):=by
  unfold stmP;rw[w_let,notSet hW,w_if,w_while,w_break,hW];rfl
 rw[e1];have H:=zh h;have HIf:=zh (fun (W:World) (x:Rp W g len T wd st)=>is_no x h0 ⟨#[105,102]⟩ (by decide +kernel) w_if);have HT_while:=zh (fun (W:World) (x:Rp W g len T wd st)=>take_no x ⟨#[119,104,105,108,101]⟩ (by decide +kernel) w_while);have HT_let:=zh (fun (W:World) (x:Rp W g len T wd st)=>take_no x ⟨#[108,101,116]⟩ (by decide +kernel) w_let);have HT_break:=zh (fun (W:World) (x:Rp W g len T wd st)=>take_no x ⟨#[98,114,101,97,107]⟩ (by decide +kernel) w_break);have HTy:=zh (fun (W:World) (x:Rp W g len T wd st)=>take_yes x ⟨#[99,111,110,116,105,110,117,101]⟩ (by decide +kernel) hW);have HG:=zh (fun (W:World) (x:Rp W g len T wd st.next)=>want_s x ⟨#[59]⟩ (by decide +kernel));have hwg:(w.heap.size == g)=false:=by simp;omega
 have hwg1:(w.heap.size+1 == g)=false:=by simp;omega
 clear h e1
 go_enter Tryz.func65,Tryz.ntmps65
 go_wp2_with (first
  | (go_at_call 63;refine Calls.mono (zu HIf _ ((zu H).ext ((Ext.alloc w _).trans (Ext.alloc _ _)))) ?_;rintro e w0 ⟨rfl,hw⟩;have RB0:=zh (hw.row ((Ext.alloc _ _).row (Go.heap_alloc_new w _)));have RN0:=zh (hw.row (Go.heap_alloc_new (w.alloc _) _));have G0:=zh ((Gr.of ((Ext.alloc w _).trans (Ext.alloc _ _))).trans (Gr.of (g:=g) hw));have S0:=zh ((zu H).ext (((Ext.alloc w _).trans (Ext.alloc _ _)).trans hw));clear hw)
  | (have T9:=zu S0;go_at_call 35;refine Calls.mono (zu HT_while _ T9) ?_;rintro e w1 ⟨rfl,hs,hw⟩;have RB1:=zh (hw.row (zu RB0) (by omega));have RN1:=zh (hw.row (zu RN0) (by simp;omega));have G1:=zh ((zu G0).trans hw);have S1:=zh hs;clear hw hs T9 S0 RB0 RN0 G0)
  | (have T9:=zu S1;go_at_call 35;refine Calls.mono (zu HT_let _ T9) ?_;rintro e w2 ⟨rfl,hs,hw⟩;have RB2:=zh (hw.row (zu RB1) (by omega));have RN2:=zh (hw.row (zu RN1) (by simp;omega));have G2:=zh ((zu G1).trans hw);have S2:=zh hs;clear hw hs T9 S1 RB1 RN1 G1)
  | (have T9:=zu S2;go_at_call 35;refine Calls.mono (zu HT_break _ T9) ?_;rintro e w3 ⟨rfl,hs,hw⟩;have RB3:=zh (hw.row (zu RB2) (by omega));have RN3:=zh (hw.row (zu RN2) (by simp;omega));have G3:=zh ((zu G2).trans hw);have S3:=zh hs;clear hw hs T9 S2 RB2 RN2 G2)
  | (have T9:=zu S3;go_at_call 35;refine Calls.mono (zu HTy _ T9) ?_;rintro e wy ⟨rfl,hs,hw⟩;have RBy:=zh (hw.row (zu RB3) (by omega));have RNy:=zh (hw.row (zu RN3) (by simp;omega));have Gy:=zh ((zu G3).trans hw);have d0:=zr (zu RNy) 0 rfl;have d1:=zr (zu RNy) 1 rfl;have d2:=zr (zu RNy) 2 rfl;have d3:=zr (zu RNy) 3 rfl;have d4:=zr (zu RNy) 4 rfl;have dz:=rowF (zu RNy);simp only[size_alloc] at d0 d1 d2 d3 d4 dz;have hyy:w.heap.size+1 < wy.heap.size:=(by have:=(Array.getElem?_eq_some_iff.1 (zu RNy)).1;rw[size_alloc] at this;exact this);have Sy:=zh hs;clear hw hs T9 S3 RB3 RN3 G3))
 obtain⟨WZ,hWZ⟩:∃ WZ,WZ=wy.setCell ⟨w.heap.size+1,0,none⟩ (.int .i64 6):=⟨_,rfl⟩;have hSZ:Rp WZ g len T wd st.next:=by
  rw[hWZ];obtain⟨V,i,pl,dp,h1,⟨a2,cap2,rfl,q1,q2,q3⟩,h3⟩:=(zu Sy).ex;refine⟨⟨_,i,pl,dp,row_other h1 (by omega) _ _,⟨a2,cap2,rfl,q1,q2,?_⟩,h3⟩,(zu Sy).nv,(zu Sy).tk,(zu Sy).tl⟩;rcases q3 with q3 | ⟨b',off,rfl,hb',hcc⟩
  ·exact Or.inl q3
  ·refine Or.inr ⟨b',off,rfl,hb',fun j u hu => ?_⟩
   rw[World.cell?_of_block (w:=wy) (Below.heap_setCell wy ⟨w.heap.size+1,0,none⟩ _ b' (by show b'≠w.heap.size+1;omega))];exact hcc j u hu
 have hNZ:WZ.heap[w.heap.size+1]? = some (nodO 6 0 zE 0 (.slice none 0 0)):=by
  rw[hWZ];have h:=zu RNy;rw[size_alloc] at h;exact row_set h 0 (.int .i64 6)
 have hBZ:WZ.heap[w.heap.size]? = some (nodO 0 0 zE 0 (.slice none 0 0)):=by rw[hWZ];exact row_other (zu RBy) (by show w.heap.size≠w.heap.size+1;omega) _ _
 have hGZ:Gr g w WZ:=by rw[hWZ];exact(zu Gy).set (p:=⟨w.heap.size+1,_,none⟩) (Or.inl (by show w.heap.size≤w.heap.size+1;omega)) _
 rw[← hWZ];have SZ:=zh hSZ;have NZ:=zh hNZ;have BZ:=zh hBZ;have GZ:=zh hGZ;clear hWZ hSZ hNZ hBZ hGZ RBy RNy Gy Sy d0 d1 d2 d3 d4 dz
 go_wp2_with (have T9:=zu SZ;go_at_call 33;refine Calls.mono (zu HG _ T9) ?_;rintro e w6 ⟨rfl,hs,hw⟩;have RE:=zh (hw.row (zu BZ) (by omega));have RQ:=zh (hw.row (zu NZ) (by omega));have r0:=zr (zu RE) 0 rfl;have r1:=zr (zu RE) 1 rfl;have r2:=zr (zu RE) 2 rfl;have r3:=zr (zu RE) 3 rfl;have r4:=zr (zu RE) 4 rfl;have rz:=rowF (zu RE);have q0:=zr (zu RQ) 0 rfl;have q1:=zr (zu RQ) 1 rfl;have q2:=zr (zu RQ) 2 rfl;have q3:=zr (zu RQ) 3 rfl;have q4:=zr (zu RQ) 4 rfl;have qz:=rowF (zu RQ);have S6:=zh hs;have G6:=zh ((zu GZ).trans hw);clear hw hs T9)
 have hrowF:(set5 w6 w.heap.size 6 0 zE 0 (.slice none 0 0)).heap[w.heap.size]? = some (nodO 6 0 zE 0 (.slice none 0 0)):=set5_row (zu RE) _ _ _ _ _;exact bodyPost_ret (v:=nodV 6 0 zE 0 (.slice none 0 0)) (res_nodR Tryz.results65 _ _ w.heap.size _ _ _ _ _ rfl hrowF) rfl (rnode_end (l:=[]) hg (zu S6) (zu G6) (Nat.le_refl _) trivial (fun _=>rfl))
end
end Go.Proofs.YtjnpehohialmbaaGreat
