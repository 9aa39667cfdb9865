/- A function under way in the document's own reader: its variable,the row of its parameters. -/
import Derived.OneCell
import Derived.Test.YtjnpehohialmbaaGreatZs16
set_option linter.unusedSimpArgs false
set_option linter.unusedVariables false
set_option maxRecDepth 10000
set_option maxHeartbeats 8000000
namespace Go.Proofs.YtjnpehohialmbaaGreat
open Go.RowKit
section
variable {w w' wr w2:World} {g len:Nat} {T:List Tk} {wd:Int} {st:PS}
theorem own_ne {W:World} {B base size n:Nat} {cs:Array Value} {t e:TypeId} {v:Value} {xs:List Value} (ho:W.ownsRow base e size v n xs) (hB:W.heap[B]? = some (.cells cs t (0,0))) (hne:t≠e):v.ownBlock≠some B:=by
 rcases ho.2 with⟨rfl,_⟩ | ⟨b,cap,cur,rfl,_,hg,_⟩
 ·simp[Value.ownBlock]
 ·intro e1
  simp only[Value.ownBlock,Option.some.injEq] at e1;subst e1;rw[hg] at hB;injection hB with hB;injection hB with _ h2 _;exact hne h2.symm
theorem Rp.wide (h:Rp w g len T wd st) (wd':Int):Rp (w.setCell ⟨g,6,none⟩ (.int .i64 wd')) g len T wd' st:=by
 obtain⟨V,i,pl,dp,h1,h2,h3⟩:=h.ex;exact⟨⟨V,i,pl,dp,row_set h1 6 _,h2.on ((Gr.refl _ _).set (p:=⟨g,6,none⟩) (Or.inr rfl) _),h3⟩,h.nv,h.tk,h.tl⟩
structure FS (g len:Nat) (T:List Tk) (wd:Int) (w wr:World) (B:Nat) (st:PS) (nm:ByteArray) (ps:List ByteArray) (n:Nat) (ao:Option Addr) (cap:Nat):Prop where
 hg:g < w.heap.size
 hB:w.heap.size < B
 hn:ps.length=n
 rs:Rp wr g len T wd st
 gr:Gr g w wr
 r2:wr.heap[w.heap.size]? = some (funO zE none 0 0 0 0 zE 0 none 0 0)
 r3:wr.heap[B]? = some (funO nm ao n cap 0 0 zE 0 none 0 0)
 own:wr.ownsRow (w.heap.size+1) 9 1 (.slice ao n cap) n (ps.map Value.string)
variable {B:Nat} {nm:ByteArray} {ps:List ByteArray} {n:Nat} {ao:Option Addr} {cap:Nat}
theorem FS.start (hg:g < w.heap.size) (hr2:wr.heap[w.heap.size]? = some (funO zE none 0 0 0 0 zE 0 none 0 0)) (hgr:Gr g w wr) (hs:Rp wr g len T wd st) (nm:ByteArray) :
  FS g len T wd w (wr.alloc (funO nm none 0 0 0 0 zE 0 none 0 0)) wr.heap.size st nm [] 0 none 0 :=
 ⟨hg,(Array.getElem?_eq_some_iff.1 hr2).1,rfl,hs.ext (Ext.alloc _ _),hgr.alloc _,(Ext.alloc _ _).row hr2,Go.heap_alloc_new wr _,World.ownsRow_nil _ _ _ _⟩
theorem FS.lt (h:FS g len T wd w wr B st nm ps n ao cap):B < wr.heap.size:=(Array.getElem?_eq_some_iff.1 h.r3).1
theorem FS.go {st':PS} (h:FS g len T wd w wr B st nm ps n ao cap) (hs:Rp w2 g len T wd st') (hw:Gr g wr w2):FS g len T wd w w2 B st' nm ps n ao cap:=by
 have hg:=h.hg;have hB:=h.hB;exact⟨h.hg,h.hB,h.hn,hs,h.gr.trans hw,hw.row h.r2 (by omega),hw.row h.r3 (by omega),own_gr h.own hw (by omega)⟩
theorem FS.ownAt (h:FS g len T wd w wr B st nm ps n ao cap) (hw:Gr g wr w2):w2.ownsRow (w.heap.size+1) 9 1 (.slice ao n cap) n (ps.map Value.string):=own_gr h.own hw (by have:=h.hg;omega)
theorem FS.grown {wa w6:World} (h:FS g len T wd w wr B st nm ps n ao cap) (X5:Gr g wr wa) (hgw:wa.grownBy w6 (Value.slice ao n cap).ownBlock) :
  w6.heap[B]? = some (funO nm ao n cap 0 0 zE 0 none 0 0):=by
 have hg:=h.hg;have hB:=h.hB;have h1:=h.lt;have hne:=own_ne h.own h.r3 (by decide);exact(hgw.block B (Nat.lt_of_lt_of_le h1 X5.size) (fun e=>hne e.symm)).trans (X5.row h.r3 (by omega))
theorem FS.snoc {w5 w6:World} {st5:PS} {g' cap':Nat} {s:ByteArray} (h:FS g len T wd w wr B st nm ps n ao cap) (X5:Gr g wr w5) (S5:Rp w5 g len T wd st5) (ob:Obj)
  (ho:w6.ownsRow (w.heap.size+1) 9 1 (.slice (some ⟨g',0,none⟩) (n+1) cap') (n+1) (ps.map Value.string++[.string s])) (hgw:(w5.alloc ob).grownBy w6 (Value.slice ao n cap).ownBlock) :
  FS g len T wd w (w6.setCell ⟨B,1,none⟩ (.slice (some ⟨g',0,none⟩) (n+1) cap')) B st5 nm (ps++[s]) (n+1) (some ⟨g',0,none⟩) cap':=by
 have hg:=h.hg;have hB:=h.hB;have hn:=h.hn;have h1:=h.lt;have X6:Gr g wr (w5.alloc ob):=X5.alloc ob;have hz:=X6.size;have hx:=h.ownAt X6;have hk:=below_grown hx hgw;have R3:=h.grown X6 hgw;have R2:w6.heap[w.heap.size]? = some (funO zE none 0 0 0 0 zE 0 none 0 0):=(hk _ (by omega) (by omega)).trans (X6.row h.r2 (by omega));have S6:Rp w6 g len T wd st5:=(S5.ext (Ext.alloc _ ob)).append (by omega) hx hgw;have G6:Gr g w w6:=Gr.append (h.gr.trans X6) hx (by omega) hgw;have hne:=own_ne ho R3 (by decide);exact⟨hg,hB,by simp[hn],S6.put (by omega) _ _,G6.set (p:=⟨B,1,none⟩) (Or.inl (by show w.heap.size≤B;omega)) _,row_other R2 (by omega) _ _,row_set R3 1 _,by rw[List.map_append];exact ownsRow_setCell_other ho hne _⟩
theorem FS.as {r:PS} (h:FS g len T wd w wr B st nm ps n ao cap) (k:Kp st r) (h0:st.e≠0):FS g len T wd w wr B r nm ps n ao cap:=⟨h.hg,h.hB,h.hn,h.rs.as k h0,h.gr,h.r2,h.r3,h.own⟩
structure FB (g len:Nat) (T:List Tk) (wd:Int) (w wr:World) (B:Nat) (st:PS) (nm:ByteArray) (ps:List ByteArray) (n:Nat) (ao:Option Addr) (cap:Nat) (k o:Int) (s:ByteArray) (n2:Int) (l:List PN) (ln:Nat) (a:Option Addr) (c:Nat):Prop where
 hg:g < w.heap.size
 hB:w.heap.size < B
 hn:ps.length=n
 hl:l.length=ln
 rs:Rp wr g len T wd st
 gr:Gr g w wr
 r2:wr.heap[w.heap.size]? = some (funO zE none 0 0 0 0 zE 0 none 0 0)
 r3:wr.heap[B]? = some (funO nm ao n cap k o s n2 a ln c)
 hcap:n≤cap
 hc:ln≤c
 rps:RepS wr (Fr (w.heap.size+1) wr.heap.size) ps ao
 rpl:RepNL wr (Fr (w.heap.size+1) wr.heap.size) l a
abbrev setB (w:World) (B:Nat) (k o:Int) (s:ByteArray) (n:Int) (a:Option Addr) (ln c:Nat):World:=(((((w).setCell ⟨B,2,none⟩ (.int .i64 k)).setCell ⟨B,3,none⟩ (.int .i64 o)).setCell ⟨B,4,none⟩ (.string s)).setCell ⟨B,5,none⟩ (.int .i64 n)).setCell ⟨B,6,none⟩ (.slice a ln c)
theorem FS.body {w5:World} {st5:PS} {k o n2:Int} {s:ByteArray} {l:List PN} {a:Option Addr} {c:Nat} (h:FS g len T wd w wr B st nm ps n ao cap) (hs:Rp w5 g len T wd st5) (hw:Gr g wr w5) (hl:RepNL w5 (Fr wr.heap.size w5.heap.size) l a) (hc:l.length≤c) :
  FB g len T wd w (setB w5 B k o s n2 a l.length c) B st5 nm ps n ao cap k o s n2 l l.length a c:=by
 have hg:=h.hg;have hB:=h.hB;have hn:=h.hn;have h1:=h.lt;have hz:=hw.size;have h9:=h.go hs hw;have hne:=own_ne h9.own h9.r3 (by decide);have hsz:(setB w5 B k o s n2 a l.length c).heap.size=w5.heap.size:=by simp[World.setCell]
 have hbl:∀ b,b≠B→(setB w5 B k o s n2 a l.length c).heap[b]? = w5.heap[b]?:=fun b hb=>by
  rw[Below.heap_setCell _ _ _ _ hb,Below.heap_setCell _ _ _ _ hb,Below.heap_setCell _ _ _ _ hb,Below.heap_setCell _ _ _ _ hb,Below.heap_setCell _ _ _ _ hb]
 have hgr:Gr g w (setB w5 B k o s n2 a l.length c):=((((h9.gr.set (p:=⟨B,2,none⟩) (Or.inl (by show w.heap.size≤B;omega)) _).set (p:=⟨B,3,none⟩) (Or.inl (by show w.heap.size≤B;omega)) _).set (p:=⟨B,4,none⟩) (Or.inl (by show w.heap.size≤B;omega)) _).set (p:=⟨B,5,none⟩) (Or.inl (by show w.heap.size≤B;omega)) _).set (p:=⟨B,6,none⟩) (Or.inl (by show w.heap.size≤B;omega)) _;have hr3:(setB w5 B k o s n2 a l.length c).heap[B]? = some (funO nm ao n cap k o s n2 a l.length c):=by
  have h7:=row_set (row_set (row_set (row_set (row_set h9.r3 2 (.int .i64 k)) 3 (.int .i64 o)) 4 (.string s)) 5 (.int .i64 n2)) 6 (.slice a l.length c)
  simpa only [List.setIfInBounds_toArray,List.set_cons_zero,List.set_cons_succ] using h7
 have ho2:(setB w5 B k o s n2 a l.length c).ownsRow (w.heap.size+1) 9 1 (.slice ao n cap) n (ps.map Value.string) :=
  ownsRow_setCell_other (ownsRow_setCell_other (ownsRow_setCell_other (ownsRow_setCell_other (ownsRow_setCell_other h9.own hne _) hne _) hne _) hne _) hne _
 subst hn;obtain⟨d1,d2⟩:=own_S ho2;refine⟨hg,hB,rfl,rfl,((((hs.put (by omega) _ _).put (by omega) _ _).put (by omega) _ _).put (by omega) _ _).put (by omega) _ _,hgr,(hbl _ (by omega)).trans h9.r2,hr3,d1,hc,d2,RepNL.to (fun b hb => ?_) _ _ hl⟩;have q1:=hb.1;have q2:=hb.2;exact⟨⟨by omega,by rw[hsz];exact q2⟩,hbl b (by omega)⟩
abbrev widP (wd:Int) (n:Nat):Int:=max wd (n:Int)
def RFun (w:World) (g len:Nat) (T:List Tk) (wd:Int) (r:PFn × PS) (e:Ending) (w':World):Prop :=
 ∃ v p,e = .returned v∧RepFn w' (Fr w.heap.size w'.heap.size) p v∧(r.2.e=0→p=r.1)∧Rp w' g len T (widP wd p.ps.length) r.2∧Gr g w w'
variable {k o:Int} {s:ByteArray} {n2:Int} {l:List PN} {ln:Nat} {a:Option Addr} {c:Nat}
theorem FB.end (h:FB g len T wd w wr B st nm ps n ao cap k o s n2 l ln a c) (X:Int):(set7 (wr.setCell ⟨g,6,none⟩ (.int .i64 X)) w.heap.size nm ao n cap k o s n2 a ln c).drew.heap[w.heap.size]? = some (funO nm ao n cap k o s n2 a ln c) :=
 (Ext.drew (Ext.refl _)).row (set7_row (row_other h.r2 (by have:=h.hg;show w.heap.size≠g;omega) _ _) _ _ _ _ _ _ _ _ _ _ _)
theorem RFun.ext {r:PFn × PS} {e:Ending} {w1 w2:World} (h:RFun w g len T wd r e w1) (x:Ext w1 w2):RFun w g len T wd r e w2:=by
 obtain⟨v,p,he,⟨pa,pc,a,cap,hv,h1,h2,h3,h4⟩,hp,hs,hg⟩:=h;have hb:∀ b,Fr w.heap.size w1.heap.size b→Fr w.heap.size w2.heap.size b∧w2.heap[b]? = w1.heap[b]?:=fun b hb=>⟨⟨hb.1,Nat.lt_of_lt_of_le hb.2 x.size⟩,x.block b hb.2⟩;exact⟨v,p,he,⟨pa,pc,a,cap,hv,h1,h2.to hb,h3,RepNL.to hb _ _ h4⟩,hp,hs.ext x,hg.trans (Gr.of x)⟩
theorem FB.fin {r:PFn × PS} (h:FB g len T wd w wr B r.2 nm ps n ao cap k o s n2 l ln a c) (hp:r.2.e=0→(⟨nm,ps,⟨k,o,s,n2,l⟩⟩:PFn)=r.1) :
  RFun w g len T wd r (.returned (funV nm ao n cap k o s n2 a ln c)) (set7 (wr.setCell ⟨g,6,none⟩ (.int .i64 (max wd (n:Int)))) w.heap.size nm ao n cap k o s n2 a ln c).drew:=by
 have hg:=h.hg;have hn:=h.hn;have hl:=h.hl;subst hn hl;refine RFun.ext ?_ (Ext.drew (Ext.refl _));generalize hXX:max wd (ps.length:Int)=X;have hsz:(wr.setCell ⟨g,6,none⟩ (.int .i64 X)).heap.size=wr.heap.size:=by simp[World.setCell]
 have hb:∀ b,Fr (w.heap.size+1) wr.heap.size b→Fr w.heap.size (set7 (wr.setCell ⟨g,6,none⟩ (.int .i64 X)) w.heap.size nm ao ps.length cap k o s n2 a l.length c).heap.size b∧(set7 (wr.setCell ⟨g,6,none⟩ (.int .i64 X)) w.heap.size nm ao ps.length cap k o s n2 a l.length c).heap[b]? = wr.heap[b]?:=fun b hb=>by
  have q1:=hb.1;have q2:=hb.2;refine⟨⟨by omega,by rw[set7_size,hsz];exact q2⟩,?_⟩;rw[set7_block (by omega),Below.heap_setCell _ _ _ _ (by show b≠g;omega)]
 have S:Rp (wr.setCell ⟨g,6,none⟩ (.int .i64 X)) g len T X r.2:=h.rs.wide X;refine⟨_,⟨nm,ps,⟨k,o,s,n2,l⟩⟩,rfl,⟨ao,cap,a,c,rfl,h.hcap,h.rps.to hb,h.hc,RepNL.to hb _ _ h.rpl⟩,hp,?_,((h.gr).set (p:=⟨g,6,none⟩) (Or.inr rfl) _).set7 (Nat.le_refl _) _ _ _ _ _ _ _ _ _ _ _⟩;have e9:widP wd (⟨nm,ps,⟨k,o,s,n2,l⟩⟩:PFn).ps.length=X:=hXX;rw[e9];exact((((((S.put hg _ _).put hg _ _).put hg _ _).put hg _ _).put hg _ _).put hg _ _).put hg _ _
theorem enterRNm (v:Value) (w:World):(callFunc 34 #[v]).run Tryz.prog w = .ok (.enter 34 #[v]) w:=by kernel_rfl
theorem takeS_no (h:Rp w g len T wd st) (s:ByteArray) (hs:wordL s.toList=false) (hW:st.isS s=false):Calls Tryz.prog 35 #[.pointer (some ⟨g,0,none⟩),.string s] w (RAns w g len T wd (.bool false) st):=by
 have:=take_s h s hs;have e:st.takeS s=(false,st):=by unfold PS.takeS;rw[hW];rfl
 rw[e] at this;exact this
theorem takeS_yes (h:Rp w g len T wd st) (s:ByteArray) (hs:wordL s.toList=false) (hW:st.isS s=true):Calls Tryz.prog 35 #[.pointer (some ⟨g,0,none⟩),.string s] w (RAns w g len T wd (.bool true) st.next):=by
 have:=take_s h s hs;have e:st.takeS s=(true,st.next):=by unfold PS.takeS;rw[hW];rfl
 rw[e] at this;exact this
end
section
variable {w w':World} {g len:Nat} {T:List Tk} {wd:Int} {st:PS}
theorem function_none (bl:Rdr) (f:Nat) (hgb:GoodR bl) (hbl:RBlk g len T wd bl (funB len f st).2) (hS:((funA len st).2.sign len ⟨#[40]⟩).isS ⟨#[41]⟩=true) (h:Rp w g len T wd st) :
  Calls Tryz.prog 14 #[.pointer (some ⟨g,0,none⟩)] w (RFun w g len T wd (funP len bl f st)):=by
 have hg:=h.lt;have n1:=(pword_kp h.nv len ⟨#[102,110]⟩).nv h.nv;have n2:=(name_kp n1 len).nv n1;have n3:=(psign_kp n2 len ⟨#[40]⟩).nv n2;have HFn:=zh (fun (W:World) (x:Rp W g len T wd st)=>want_w x ⟨#[102,110]⟩ (by decide +kernel));have HNm:Hd (∀ W,Rp W g len T wd (st.word len ⟨#[102,110]⟩)→Calls Tryz.prog 34 #[.pointer (some ⟨g,0,none⟩)] W (RAns W g len T wd (.string (funA len st).1) (funA len st).2)):=fun W x=>name_r x;have HOp:=zh (fun (W:World) (x:Rp W g len T wd (funA len st).2)=>want_s x ⟨#[40]⟩ (by decide +kernel));have H:=zh h;have HBl:=zh hbl;unfold RBlk at HBl;have HTk:=zh (fun (W:World) (x:Rp W g len T wd ((funA len st).2.sign len ⟨#[40]⟩))=>takeS_yes x ⟨#[41]⟩ (by decide +kernel) hS);have eB:funB len f st=([],((funA len st).2.sign len ⟨#[40]⟩).next):=by unfold funB parP;rw[hS];rfl
 obtain⟨RS,hRS⟩:∃ RS,RS=funP len bl f st:=⟨_,rfl⟩;rw[← hRS];have hRS2:RS=(⟨(funA len st).1,[],(bl (funB len f st).2).1⟩,(bl (funB len f st).2).2):=by rw[hRS,funP,eB]
 have HRS1:Hd (RS.1=⟨(funA len st).1,[],(bl (funB len f st).2).1⟩):=by rw[Hd,hRS2]
 have hRS3:(bl (funB len f st).2).2=RS.2:=by rw[hRS2]
 obtain⟨bq,hbq⟩:∃ bq,bq=bl (funB len f st).2:=⟨_,rfl⟩;rw[← hbq] at HBl HRS1 hRS3;rw[eB] at HBl;clear h hbl hgb n1 n2 n3 hRS hRS2 eB hS hbq;obtain⟨bq1,bq2⟩:=bq;simp only at hRS3 HRS1;subst hRS3;generalize (funA len st).2.sign len ⟨#[40]⟩=u3 at *;generalize funA len st=qa at *;obtain⟨fnm,u2⟩:=qa;simp only at *;have hwg:(w.heap.size == g)=false:=by simp;omega
 go_enter Tryz.func14,Tryz.ntmps14
 go_wp2_with (first
  | (have T9:=zu H;go_at_call 33;refine Calls.mono (zu HFn _ (T9.ext (Ext.alloc _ _))) ?_;rintro e w1 ⟨rfl,hs,hw⟩;have S1:=zh hs;have G1:=zh ((Gr.of (Ext.alloc w _)).trans hw);have R1:=zh (hw.row (Go.heap_alloc_new w _) (by omega));clear hw hs T9 H)
  | (have T9:=zu S1;go_at_call 34;refine Calls.mono (zu HNm _ T9) ?_;rintro e w2 ⟨rfl,hs,hw⟩;have N2:=zh (FS.start hg (hw.row (zu R1) (by omega)) ((zu G1).trans hw) hs fnm);clear hw hs T9 S1 R1 G1)
  | (have T9:=zu N2;go_at_call 33;refine Calls.mono (zu HOp _ T9.rs) ?_;rintro e w3 ⟨rfl,hs,hw⟩;have N3:=zh (T9.go hs hw);clear hw hs T9 N2)
  | (have T9:=zu N3;go_at_call 35;refine Calls.mono (zu HTk _ T9.rs) ?_;rintro e w4 ⟨rfl,hs,hw⟩;have N4:=zh (T9.go hs hw);clear hw hs T9 N3)
  | (have T9:=zu N4;go_at_call 36;refine Calls.mono (zu HBl _ T9.rs) ?_;rintro e w5 ⟨v,p5,rfl,hr,hp,hs,hw⟩;obtain⟨k2,o2,s2,n2,l2⟩:=p5;rw[RepN] at hr;obtain⟨a2,cap2,rfl,hcap2,hl3⟩:=hr;have NB:=zh (T9.body (k:=k2) (o:=o2) (s:=s2) (n2:=n2) hs hw hl3 hcap2);have P5:=zh hp;have d0:=zr (T9.go hs hw).r3 0 rfl;have d1:=zr (T9.go hs hw).r3 1 rfl;have d2:=zr (T9.go hs hw).r3 2 rfl;have d3:=zr (T9.go hs hw).r3 3 rfl;have d4:=zr (T9.go hs hw).r3 4 rfl;have d5:=zr (T9.go hs hw).r3 5 rfl;have d6:=zr (T9.go hs hw).r3 6 rfl;have dz:=rowF (T9.go hs hw).r3;clear hw hs hl3 hp T9 N4))
 refine gen_world (F:=fun W=>Code.wp _ _ _ _ W) ?_;intro W9 hW9;have NC0:FB g len T wd w W9 w2.heap.size RS.2 fnm [] 0 none 0 k2 o2 s2 n2 l2 l2.length a2 cap2:=by rw[hW9];exact zu NB
 obtain⟨lnq,NC1⟩:∃ m,FB g len T wd w W9 w2.heap.size RS.2 fnm [] 0 none 0 k2 o2 s2 n2 l2 m a2 cap2:=⟨_,NC0⟩;obtain⟨nq,NC2⟩:∃ m,FB g len T wd w W9 w2.heap.size RS.2 fnm [] m none 0 k2 o2 s2 n2 l2 lnq a2 cap2:=⟨_,NC1⟩;have NC:=zh NC2;clear NC0 NC1 NC2 NB hW9;clear d0 d1 d2 d3 d4 d5 d6 dz;have hBB:=(zu NC).hB;have hne1:(w2.heap.size == g)=false:=by simp;omega
 have hne2:(w.heap.size == w2.heap.size)=false:=by simp;omega
 have d1:W9.cell? ⟨w2.heap.size,1,none⟩=some (.slice none nq 0):=zr (zu NC).r3 1 rfl;obtain⟨V9,i9,pl9,dp9,hrow9,-⟩:=(zu NC).rs.ex;have c6:W9.cell? ⟨g,6,none⟩=some (.int .i64 wd):=zr hrow9 6 rfl;have cz:=rowF hrow9;clear hrow9;refine wp_nrm ?_
 first | skip;go_region_law (first | fail) | fail
 all_goals
  refine nrm_inB ?_;have RQ:=(zu NC).r3;have RR:=(zu NC).r2;clear d1;have q0:=zr RQ 0 rfl;have q1:=zr RQ 1 rfl;have q2:=zr RQ 2 rfl;have q3:=zr RQ 3 rfl;have q4:=zr RQ 4 rfl;have q5:=zr RQ 5 rfl;have q6:=zr RQ 6 rfl;have qz:=rowF RQ;have r0:=zr RR 0 rfl;have r1:=zr RR 1 rfl;have r2:=zr RR 2 rfl;have r3:=zr RR 3 rfl;have r4:=zr RR 4 rfl;have r5:=zr RR 5 rfl;have r6:=zr RR 6 rfl;have rz:=rowF RR;clear RQ RR
  go_wp2_with fail
  exact bodyPost_ret (v:=funV fnm none nq 0 k2 o2 s2 n2 a2 lnq cap2) (res_fun Tryz.results14 _ _ w.heap.size _ _ _ _ _ _ _ _ _ _ _ rfl ((zu NC).end _)) rfl ((zu NC).fin (fun e=>by rw[zu P5 e,zu HRS1]))
end
section
variable {w w':World} {g len:Nat} {T:List Tk} {wd:Int} {st:PS}
def PQ (len:Nat) (F:List ByteArray × PS) (stc:PS) (acc:List ByteArray) (j:Nat):Prop :=
 (stc.e=0∧F=parLoop len j (acc++[(stc.name len).1]) (stc.name len).2∧(stc.name len).2.ts.length < j∧acc.length+stc.ts.length≤100000)∨(stc.e≠0∧Kp stc F.2)
theorem function_some (bl:Rdr) (f:Nat) (hgb:GoodR bl) (hf:st.ts.length < f) (hf2:f≤90000) (hbl:RBlk g len T wd bl (funB len f st).2) (hS:((funA len st).2.sign len ⟨#[40]⟩).isS ⟨#[41]⟩=false) (h:Rp w g len T wd st) :
  Calls Tryz.prog 14 #[.pointer (some ⟨g,0,none⟩)] w (RFun w g len T wd (funP len bl f st)):=by
 have hg:=h.lt;have n1:=(pword_kp h.nv len ⟨#[102,110]⟩).nv h.nv;have n2:=(name_kp n1 len).nv n1;have n3:=(psign_kp n2 len ⟨#[40]⟩).nv n2;have HFn:=zh (fun (W:World) (x:Rp W g len T wd st)=>want_w x ⟨#[102,110]⟩ (by decide +kernel));have HNm:Hd (∀ W,Rp W g len T wd (st.word len ⟨#[102,110]⟩)→Calls Tryz.prog 34 #[.pointer (some ⟨g,0,none⟩)] W (RAns W g len T wd (.string (funA len st).1) (funA len st).2)):=fun W x=>name_r x;have HOp:=zh (fun (W:World) (x:Rp W g len T wd (funA len st).2)=>want_s x ⟨#[40]⟩ (by decide +kernel));have H:=zh h;have HBl:=zh hbl;unfold RBlk at HBl;have HTk:=zh (fun (W:World) (x:Rp W g len T wd ((funA len st).2.sign len ⟨#[40]⟩))=>takeS_no x ⟨#[41]⟩ (by decide +kernel) hS);have q1:=word_le st len ⟨#[102,110]⟩;have q2:(funA len st).2.ts.length≤(st.word len ⟨#[102,110]⟩).ts.length:=name_le _ _
 have q3:=psign_le (funA len st).2 len ⟨#[40]⟩;obtain⟨F,hF⟩:∃ F,F=parLoop len f [(((funA len st).2.sign len ⟨#[40]⟩).name len).1] (((funA len st).2.sign len ⟨#[40]⟩).name len).2:=⟨_,rfl⟩;have n3':Nv ((funA len st).2.sign len ⟨#[40]⟩):=n3;have KF:Kp ((funA len st).2.sign len ⟨#[40]⟩) F.2:=by rw[hF];exact(name_kp n3' len).trans (parLoop_kp len f _ _ ((name_kp n3' len).nv n3'))
 have nF:=KF.nv n3';have eB:funB len f st=(F.1,F.2.sign len ⟨#[41]⟩):=by unfold funB parP;rw[hS,hF];rfl
 have HCl:=zh (fun (W:World) (x:Rp W g len T wd F.2)=>want_s x ⟨#[41]⟩ (by decide +kernel));have KS:=psign_kp nF len ⟨#[41]⟩;have KB:=hgb (F.2.sign len ⟨#[41]⟩) (KS.nv nF);obtain⟨RS,hRS⟩:∃ RS,RS=funP len bl f st:=⟨_,rfl⟩;rw[← hRS];have hRS2:RS=(⟨(funA len st).1,F.1,(bl (F.2.sign len ⟨#[41]⟩)).1⟩,(bl (F.2.sign len ⟨#[41]⟩)).2):=by rw[hRS,funP,eB]
 rw[eB] at HBl;simp only at HBl;have HE:Hd (RS.2.e=0→F.2.e=0):=fun e=>by rw[hRS2] at e;exact(KS.ok (KB.ok e).1).1
 have MQ:Hd (PQ len F ((funA len st).2.sign len ⟨#[40]⟩) [] f):=by
  by_cases h9:((funA len st).2.sign len ⟨#[40]⟩).e=0
  ·have q4:=name_le ((funA len st).2.sign len ⟨#[40]⟩) len
   exact Or.inl ⟨h9,hF,by omega,by simp;omega⟩
  ·exact Or.inr ⟨h9,KF⟩
 generalize hqb:bl (F.2.sign len ⟨#[41]⟩)=bq at *;have HRS1:Hd (RS.1=⟨(funA len st).1,F.1,bq.1⟩):=by rw[Hd,hRS2]
 have hRS3:bq.2=RS.2:=by rw[hRS2]
 clear h hbl hgb n1 n2 n3 n3' hRS hRS2 eB hS KB KS KF nF hF hqb q1 q2 q3;obtain⟨bq1,bq2⟩:=bq;simp only at hRS3 HRS1;subst hRS3;generalize (funA len st).2.sign len ⟨#[40]⟩=u3 at *;generalize funA len st=qa at *;obtain⟨fnm,u2⟩:=qa;simp only at *;obtain⟨i0,hi,hz0,hz1,hz2⟩:=info_parts infoS;have HI:=zh hi;have Z0:=zh hz0;have Z1:=zh hz1;have Z2:=zh hz2;clear hi hz0 hz1 hz2;have hwg:(w.heap.size == g)=false:=by simp;omega
 go_enter Tryz.func14,Tryz.ntmps14
 go_wp2_with (first
  | (have T9:=zu H;go_at_call 33;refine Calls.mono (zu HFn _ (T9.ext (Ext.alloc _ _))) ?_;rintro e w1 ⟨rfl,hs,hw⟩;have S1:=zh hs;have G1:=zh ((Gr.of (Ext.alloc w _)).trans hw);have R1:=zh (hw.row (Go.heap_alloc_new w _) (by omega));clear hw hs T9 H)
  | (have T9:=zu S1;go_at_call 34;refine Calls.mono (zu HNm _ T9) ?_;rintro e w2 ⟨rfl,hs,hw⟩;have N2:=zh (FS.start hg (hw.row (zu R1) (by omega)) ((zu G1).trans hw) hs fnm);clear hw hs T9 S1 R1 G1)
  | (have T9:=zu N2;go_at_call 33;refine Calls.mono (zu HOp _ T9.rs) ?_;rintro e w3 ⟨rfl,hs,hw⟩;have N3:=zh (T9.go hs hw);clear hw hs T9 N2)
  | (have T9:=zu N3;go_at_call 35;refine Calls.mono (zu HTk _ T9.rs) ?_;rintro e w4 ⟨rfl,hs,hw⟩;have N4:=zh (T9.go hs hw);clear hw hs T9 N3))
 go_loopw [] (fun wr => ∃ (acc:List ByteArray) (nq:Nat) (ao:Option Addr) (cap:Nat) (stc:PS) (j:Nat),Hd (FS g len T wd w wr w2.heap.size stc fnm acc nq ao cap)∧Hd (PQ len F stc acc j)) (fun wr=>rleft g T.length wr)
 case atStart=>exact⟨[],0,none,0,u3,f,N4,MQ⟩
 case round =>
  clear MQ N4;obtain⟨acc,nq,ao,cap,stc,j,hM,hQ⟩:=hrel;have hnvc:=(zu hM).rs.nv;have hBB:=(zu hM).hB;have hne1:(w2.heap.size == g)=false:=by simp;omega
  have hne2:(w.heap.size == w2.heap.size)=false:=by simp;omega
  obtain⟨V,i,pl,dp,hrow,-⟩:=(zu hM).rs.ex;rcases zu hQ with⟨hec,hEq,hfu,hbd⟩ | ⟨hec,hkp⟩
  ·rw[hec] at hrow
   obtain⟨c0,c1,c2,c3,c4,c5,c6,zf⟩:=rp_c hrow;obtain⟨j,rfl⟩:∃ i,j=i+1:=⟨j - 1,by omega⟩;have HN2:=zh (fun (W:World) (x:Rp W g len T wd stc)=>name_r x);have hm0:=rleft_eq (zu hM).rs;rw[if_pos hec] at hm0;have hnl:=name_le stc len;have hnn:=(name_kp hnvc len).nv hnvc;generalize hqn:stc.name len=qn at *;obtain⟨nm1,st4⟩:=qn;simp only at *;cases hc:st4.isS ⟨#[44]⟩
   ·have hF2:F=(acc++[nm1],st4):=by rw[hEq,parLoop,hc];rfl
    have HTc:=zh (fun (W:World) (x:Rp W g len T wd st4)=>takeS_no x ⟨#[44]⟩ (by decide +kernel) hc);subst hF2;simp only at HCl HRS1 HE;clear hEq hfu hQ hqn hnn hrow hm0 hc;have d1:wr.cell? ⟨w2.heap.size,1,none⟩=some (.slice ao nq cap):=zr (zu hM).r3 1 rfl;have dz:=rowF (zu hM).r3;have hltw:=(zu hM).lt;have hn9:=(zu hM).hn
    go_wp2_with fail
    have D0:Hd (Gr g wr wr.drew):=(Gr.refl _ _).drew;have D1:Hd (Rp wr.drew g len T wd stc):=(zu hM).rs.ext (Ext.drew (Ext.refl _));have HN3:=zh (zu HN2 _ (zu D1));refine wp_nrm ?_
    first | skip;go_region_law (first
     | (refine step_call_one rfl 34 (.tmp 21) 65 rfl _ (by simp[Act.eval,Act.put]) (enterRNm _ _) (Calls.mono (zu HN3) ?_);rintro e w5 ⟨rfl,hs,hw⟩;have X5:=zh ((zu D0).trans hw);have RG:=zh ((zu X5).row (zu hM).r3 (by omega));have d0:=zr (zu RG) 0 rfl;have d1:=zr (zu RG) 1 rfl;have d2:=zr (zu RG) 2 rfl;have d3:=zr (zu RG) 3 rfl;have d4:=zr (zu RG) 4 rfl;have d5:=zr (zu RG) 5 rfl;have d6:=zr (zu RG) 6 rfl;have dz:=rowF (zu RG);have S5:=zh hs;have hb5:w2.heap.size < w5.heap.size:=(Array.getElem?_eq_some_iff.1 (zu RG)).1;clear hw hs;refine⟨_,rfl,?_⟩)
     | (refine step_append_where rfl (.tmp 20) (.tmp 23) 68 rfl (w.heap.size+1) 9 i0 (.string zE) 1 16 Tryz.underlying68 (zu HI) (zu Z0) (zu Z1) (zu Z2) rfl (by decide) ao nq cap (acc.map Value.string) (by simp[Act.eval,Act.put]) ((zu hM).ownAt ((zu X5).alloc _)) ⟨w5.heap.size,0,none⟩ 1 1 [.string nm1] (by simp[Act.eval,Act.put]) (by decide) rfl (cells_new w5 _ _) (one_str _) (by unfold maxLen;omega) (by omega) (by simp;omega) ?_;intro g2 cap6 w6 ho6 hg6 hw6;have RZ:=zh ((zu hM).grown ((zu X5).alloc _) hg6);have z0:=zr (zu RZ) 0 rfl;have z1:=zr (zu RZ) 1 rfl;have z2:=zr (zu RZ) 2 rfl;have z3:=zr (zu RZ) 3 rfl;have z4:=zr (zu RZ) 4 rfl;have z5:=zr (zu RZ) 5 rfl;have z6:=zr (zu RZ) 6 rfl;have zz:=rowF (zu RZ);have HO6:=zh ho6;have HG6:=zh hg6;clear ho6 hg6 hw6)) | fail
    all_goals
     refine nrm_inB ?_;have N5:=zh ((zu hM).snoc (zu X5) (zu S5) _ (zu HO6) (zu HG6));clear d1 dz
     go_wp2_with (first
      | (have T9:=zu N5;go_at_call 35;refine Calls.mono (zu HTc _ T9.rs) ?_;rintro e w7 ⟨rfl,hs,hw⟩;have N6:=zh (T9.go hs hw);clear hw hs T9 N5)
      | (have T9:=zu N6;go_at_call 33;refine Calls.mono (zu HCl _ T9.rs) ?_;rintro e w8 ⟨rfl,hs,hw⟩;have N7:=zh (T9.go hs hw);clear hw hs T9 N6)
      | (have T9:=zu N7;go_at_call 36;refine Calls.mono (zu HBl _ T9.rs) ?_;rintro e w9 ⟨v,p5,rfl,hr,hp,hs,hw⟩;obtain⟨k2,o2,s2,n2,l2⟩:=p5;rw[RepN] at hr;obtain⟨a2,cap2,rfl,hcap2,hl3⟩:=hr;have NB:=zh (T9.body (k:=k2) (o:=o2) (s:=s2) (n2:=n2) hs hw hl3 hcap2);have P5:=zh hp;have d0:=zr (T9.go hs hw).r3 0 rfl;have d1:=zr (T9.go hs hw).r3 1 rfl;have d2:=zr (T9.go hs hw).r3 2 rfl;have d3:=zr (T9.go hs hw).r3 3 rfl;have d4:=zr (T9.go hs hw).r3 4 rfl;have d5:=zr (T9.go hs hw).r3 5 rfl;have d6:=zr (T9.go hs hw).r3 6 rfl;have dz:=rowF (T9.go hs hw).r3;clear hw hs hl3 hp T9 N7))
     refine gen_world (F:=fun W=>Code.wp _ _ _ _ W) ?_;intro W9 hW9;have NC0:FB g len T wd w W9 w2.heap.size RS.2 fnm (acc++[nm1]) (nq+1) (some ⟨g2,0,none⟩) cap6 k2 o2 s2 n2 l2 l2.length a2 cap2:=by rw[hW9];exact zu NB
     obtain⟨lnq,NC1⟩:∃ m,FB g len T wd w W9 w2.heap.size RS.2 fnm (acc++[nm1]) (nq+1) (some ⟨g2,0,none⟩) cap6 k2 o2 s2 n2 l2 m a2 cap2:=⟨_,NC0⟩;obtain⟨nq,NC2⟩:∃ m,FB g len T wd w W9 w2.heap.size RS.2 fnm (acc++[nm1]) m (some ⟨g2,0,none⟩) cap6 k2 o2 s2 n2 l2 lnq a2 cap2:=⟨_,NC1⟩;have NC:=zh NC2;clear NC0 NC1 NC2 NB hW9;clear d0 d1 d2 d3 d4 d5 d6 dz;have hBB:=(zu NC).hB;have hne1:(w2.heap.size == g)=false:=by simp;omega
     have hne2:(w.heap.size == w2.heap.size)=false:=by simp;omega
     have d1:W9.cell? ⟨w2.heap.size,1,none⟩=some (.slice (some ⟨g2,0,none⟩) nq cap6):=zr (zu NC).r3 1 rfl;obtain⟨V9,i9,pl9,dp9,hrow9,-⟩:=(zu NC).rs.ex;have c6:W9.cell? ⟨g,6,none⟩=some (.int .i64 wd):=zr hrow9 6 rfl;have cz:=rowF hrow9;clear hrow9;refine wp_nrm ?_
     first | skip;go_region_law (first | fail) | fail
     all_goals
      refine nrm_inB ?_;have RQ:=(zu NC).r3;have RR:=(zu NC).r2;clear d1;have q0:=zr RQ 0 rfl;have q1:=zr RQ 1 rfl;have q2:=zr RQ 2 rfl;have q3:=zr RQ 3 rfl;have q4:=zr RQ 4 rfl;have q5:=zr RQ 5 rfl;have q6:=zr RQ 6 rfl;have qz:=rowF RQ;have r0:=zr RR 0 rfl;have r1:=zr RR 1 rfl;have r2:=zr RR 2 rfl;have r3:=zr RR 3 rfl;have r4:=zr RR 4 rfl;have r5:=zr RR 5 rfl;have r6:=zr RR 6 rfl;have rz:=rowF RR;clear RQ RR
      go_wp2_with fail
      exact bodyPost_ret (v:=funV fnm (some ⟨g2,0,none⟩) nq cap6 k2 o2 s2 n2 a2 lnq cap2) (res_fun Tryz.results14 _ _ w.heap.size _ _ _ _ _ _ _ _ _ _ _ rfl ((zu NC).end _)) rfl ((zu NC).fin (fun e=>by rw[zu P5 e,zu HRS1]))
   ·have hne4:=isS_ne hc
    have h4e:st4.e=0:=by
     by_cases h9:st4.e=0
     ·exact h9
     ·exact absurd (hnn.nil h9) hne4
    have hlt4:=next_lt_of hne4;have hnl2:=name_le st4.next len;have HQ2:Hd (PQ len F st4.next (acc++[nm1]) j):=Or.inl ⟨h4e,by rw[hEq,parLoop,hc];rfl,by omega,by simp;omega⟩;have HTc:=zh (fun (W:World) (x:Rp W g len T wd st4)=>takeS_yes x ⟨#[44]⟩ (by decide +kernel) hc);clear hEq hfu hQ hqn hnn hrow hc;have d1:wr.cell? ⟨w2.heap.size,1,none⟩=some (.slice ao nq cap):=zr (zu hM).r3 1 rfl;have dz:=rowF (zu hM).r3;have hltw:=(zu hM).lt;have hn9:=(zu hM).hn
    go_wp2_with fail
    have D0:Hd (Gr g wr wr.drew):=(Gr.refl _ _).drew;have D1:Hd (Rp wr.drew g len T wd stc):=(zu hM).rs.ext (Ext.drew (Ext.refl _));have HN3:=zh (zu HN2 _ (zu D1));refine wp_nrm ?_
    first | skip;go_region_law (first
     | (refine step_call_one rfl 34 (.tmp 21) 65 rfl _ (by simp[Act.eval,Act.put]) (enterRNm _ _) (Calls.mono (zu HN3) ?_);rintro e w5 ⟨rfl,hs,hw⟩;have X5:=zh ((zu D0).trans hw);have RG:=zh ((zu X5).row (zu hM).r3 (by omega));have d0:=zr (zu RG) 0 rfl;have d1:=zr (zu RG) 1 rfl;have d2:=zr (zu RG) 2 rfl;have d3:=zr (zu RG) 3 rfl;have d4:=zr (zu RG) 4 rfl;have d5:=zr (zu RG) 5 rfl;have d6:=zr (zu RG) 6 rfl;have dz:=rowF (zu RG);have S5:=zh hs;have hb5:w2.heap.size < w5.heap.size:=(Array.getElem?_eq_some_iff.1 (zu RG)).1;clear hw hs;refine⟨_,rfl,?_⟩)
     | (refine step_append_where rfl (.tmp 20) (.tmp 23) 68 rfl (w.heap.size+1) 9 i0 (.string zE) 1 16 Tryz.underlying68 (zu HI) (zu Z0) (zu Z1) (zu Z2) rfl (by decide) ao nq cap (acc.map Value.string) (by simp[Act.eval,Act.put]) ((zu hM).ownAt ((zu X5).alloc _)) ⟨w5.heap.size,0,none⟩ 1 1 [.string nm1] (by simp[Act.eval,Act.put]) (by decide) rfl (cells_new w5 _ _) (one_str _) (by unfold maxLen;omega) (by omega) (by simp;omega) ?_;intro g2 cap6 w6 ho6 hg6 hw6;have RZ:=zh ((zu hM).grown ((zu X5).alloc _) hg6);have z0:=zr (zu RZ) 0 rfl;have z1:=zr (zu RZ) 1 rfl;have z2:=zr (zu RZ) 2 rfl;have z3:=zr (zu RZ) 3 rfl;have z4:=zr (zu RZ) 4 rfl;have z5:=zr (zu RZ) 5 rfl;have z6:=zr (zu RZ) 6 rfl;have zz:=rowF (zu RZ);have HO6:=zh ho6;have HG6:=zh hg6;clear ho6 hg6 hw6)) | fail
    all_goals
     refine nrm_inB ?_;have N5:=zh ((zu hM).snoc (zu X5) (zu S5) _ (zu HO6) (zu HG6));clear d1 dz
     go_wp2_with (have T9:=zu N5;go_at_call 35;refine Calls.mono (zu HTc _ T9.rs) ?_;rintro e w7 ⟨rfl,hs,hw⟩;have N6:=zh (T9.go hs hw);clear hw hs T9 N5)
     have hm1:=rleft_eq (zu N6).rs;rw[if_pos (show st4.next.e=0 from h4e)] at hm1
     go_roundw
     case rel=>exact⟨_,_,_,_,st4.next,j,N6,HQ2⟩
     case measure=>rw[hm0,hm1];omega
  ·have he2:(stc.e == 0)=false:=by simpa using hec
   have HNE:Hd (F.2.e≠0):=by rw[Hd,(hkp.bad hec).1];exact hec
   have N6:=zh ((zu hM).as hkp hec);obtain⟨c0,c1,c2,c3,c4,c5,c6,zf⟩:=rp_c hrow;clear hQ hrow hkp hec
   go_wp2_with (first
    | (have T9:=zu N6;go_at_call 33;refine Calls.mono (zu HCl _ T9.rs) ?_;rintro e w8 ⟨rfl,hs,hw⟩;have N7:=zh (T9.go hs hw);clear hw hs T9 N6)
    | (have T9:=zu N7;go_at_call 36;refine Calls.mono (zu HBl _ T9.rs) ?_;rintro e w9 ⟨v,p5,rfl,hr,hp,hs,hw⟩;obtain⟨k2,o2,s2,n2,l2⟩:=p5;rw[RepN] at hr;obtain⟨a2,cap2,rfl,hcap2,hl3⟩:=hr;have NB:=zh (T9.body (k:=k2) (o:=o2) (s:=s2) (n2:=n2) hs hw hl3 hcap2);have P5:=zh hp;have d0:=zr (T9.go hs hw).r3 0 rfl;have d1:=zr (T9.go hs hw).r3 1 rfl;have d2:=zr (T9.go hs hw).r3 2 rfl;have d3:=zr (T9.go hs hw).r3 3 rfl;have d4:=zr (T9.go hs hw).r3 4 rfl;have d5:=zr (T9.go hs hw).r3 5 rfl;have d6:=zr (T9.go hs hw).r3 6 rfl;have dz:=rowF (T9.go hs hw).r3;clear hw hs hl3 hp T9 N7))
   refine gen_world (F:=fun W=>Code.wp _ _ _ _ W) ?_;intro W9 hW9;have NC0:FB g len T wd w W9 w2.heap.size RS.2 fnm acc nq ao cap k2 o2 s2 n2 l2 l2.length a2 cap2:=by rw[hW9];exact zu NB
   obtain⟨lnq,NC1⟩:∃ m,FB g len T wd w W9 w2.heap.size RS.2 fnm acc nq ao cap k2 o2 s2 n2 l2 m a2 cap2:=⟨_,NC0⟩;obtain⟨nq,NC2⟩:∃ m,FB g len T wd w W9 w2.heap.size RS.2 fnm acc m ao cap k2 o2 s2 n2 l2 lnq a2 cap2:=⟨_,NC1⟩;have NC:=zh NC2;clear NC0 NC1 NC2 NB hW9;clear d0 d1 d2 d3 d4 d5 d6 dz;have hBB:=(zu NC).hB;have hne1:(w2.heap.size == g)=false:=by simp;omega
   have hne2:(w.heap.size == w2.heap.size)=false:=by simp;omega
   have d1:W9.cell? ⟨w2.heap.size,1,none⟩=some (.slice ao nq cap):=zr (zu NC).r3 1 rfl;obtain⟨V9,i9,pl9,dp9,hrow9,-⟩:=(zu NC).rs.ex;have c6:W9.cell? ⟨g,6,none⟩=some (.int .i64 wd):=zr hrow9 6 rfl;have cz:=rowF hrow9;clear hrow9;refine wp_nrm ?_
   first | skip;go_region_law (first | fail) | fail
   all_goals
    refine nrm_inB ?_;have RQ:=(zu NC).r3;have RR:=(zu NC).r2;clear d1;have q0:=zr RQ 0 rfl;have q1:=zr RQ 1 rfl;have q2:=zr RQ 2 rfl;have q3:=zr RQ 3 rfl;have q4:=zr RQ 4 rfl;have q5:=zr RQ 5 rfl;have q6:=zr RQ 6 rfl;have qz:=rowF RQ;have r0:=zr RR 0 rfl;have r1:=zr RR 1 rfl;have r2:=zr RR 2 rfl;have r3:=zr RR 3 rfl;have r4:=zr RR 4 rfl;have r5:=zr RR 5 rfl;have r6:=zr RR 6 rfl;have rz:=rowF RR;clear RQ RR
    go_wp2_with fail
    exact bodyPost_ret (v:=funV fnm ao nq cap k2 o2 s2 n2 a2 lnq cap2) (res_fun Tryz.results14 _ _ w.heap.size _ _ _ _ _ _ _ _ _ _ _ rfl ((zu NC).end _)) rfl ((zu NC).fin (fun e=>absurd (zu HE e) (zu HNE)))
end
section
theorem toL_nil (s:ByteArray) (h:s.size≠0):(s.toList == [])=false:=by
 rw[toL];cases hL:L s with
 | nil=>have:=L_len s;rw[hL] at this;simp at this;omega
 | cons c r=>rfl
theorem toL_emp (s:ByteArray) (h:s.size=0):(s.toList == [])=true:=by
 have e:L s = []:=List.eq_nil_of_length_eq_zero (by rw[L_len];exact h);rw[toL,e];rfl
end
section
theorem rdigit_any (c:UInt8) (w:World):Calls Tryz.prog 27 #[.int .u8 c.toNat] w fun e w'=>e = .returned (.bool (dg c))∧w' = w:=by
 have h:=c.toNat_lt;have D:=zh (dg_iff c);rcases (show c.toNat < 48∨(48≤c.toNat∧c.toNat≤57)∨57 < c.toNat by omega) with h1 | ⟨h1,h2⟩ | h1
 all_goals
  go_enter Tryz.func27,Tryz.ntmps27
  go_wp2
  go_ret;refine⟨ret_bool ?_,rfl⟩;rw[Bool.eq_iff_iff,zu D];simp <;> omega
theorem rletter_A (c:UInt8) (w:World) (h1:c.toNat < 65):Calls Tryz.prog 29 #[.int .u8 c.toNat] w fun e w'=>e = .returned (.bool (nm c))∧w' = w:=by
 have h:=c.toNat_lt;have e95:((c.toNat:Int) == 95)=false:=by simp;omega
 have hn:=zh (nm_dg c h1);have i0:¬ ((97:Int)≤c.toNat):=by omega
 have i1:¬ ((65:Int)≤c.toNat):=by omega
 clear h1
 go_enter Tryz.func29,Tryz.ntmps29
 go_wp2_with (go_at_call 27;refine(rdigit_any _ _).mono ?_;rintro e w' ⟨rfl,rfl⟩)
 go_ret;exact⟨ret_bool (zu hn).symm,rfl⟩
theorem rletter_B (c:UInt8) (w:World) (h1:65≤c.toNat∧c.toNat≤90):Calls Tryz.prog 29 #[.int .u8 c.toNat] w fun e w'=>e = .returned (.bool (nm c))∧w' = w:=by
 have h:=c.toNat_lt;have e95:((c.toNat:Int) == 95)=false:=by simp;omega
 have hn:=zh (nm_yes c (by omega));have i0:¬ ((97:Int)≤c.toNat):=by omega
 have i1:(65:Int)≤c.toNat:=by omega
 have i2:(c.toNat:Int)≤90:=by omega
 clear h1
 go_enter Tryz.func29,Tryz.ntmps29
 go_wp2_with (go_at_call 27;refine(rdigit_any _ _).mono ?_;rintro e w' ⟨rfl,rfl⟩)
 go_ret;exact⟨ret_bool (zu hn).symm,rfl⟩
theorem rletter_C (c:UInt8) (w:World) (h1:90 < c.toNat∧c.toNat < 95):Calls Tryz.prog 29 #[.int .u8 c.toNat] w fun e w'=>e = .returned (.bool (nm c))∧w' = w:=by
 have h:=c.toNat_lt;have e95:((c.toNat:Int) == 95)=false:=by simp;omega
 have hn:=zh (nm_no c (by omega));have i0:¬ ((97:Int)≤c.toNat):=by omega
 have i1:(65:Int)≤c.toNat:=by omega
 have i2:¬ ((c.toNat:Int)≤90):=by omega
 clear h1
 go_enter Tryz.func29,Tryz.ntmps29
 go_wp2_with (go_at_call 27;refine(rdigit_any _ _).mono ?_;rintro e w' ⟨rfl,rfl⟩)
 go_ret;exact⟨ret_bool (zu hn).symm,rfl⟩
theorem rletter_D (c:UInt8) (w:World) (h1:c.toNat=95):Calls Tryz.prog 29 #[.int .u8 c.toNat] w fun e w'=>e = .returned (.bool (nm c))∧w' = w:=by
 have h:=c.toNat_lt;have e95:((c.toNat:Int) == 95)=true:=by simp;omega
 have hn:=zh (nm_yes c (by omega));have i0:¬ ((97:Int)≤c.toNat):=by omega
 have i1:(65:Int)≤c.toNat:=by omega
 have i2:¬ ((c.toNat:Int)≤90):=by omega
 clear h1
 go_enter Tryz.func29,Tryz.ntmps29
 go_wp2_with (go_at_call 27;refine(rdigit_any _ _).mono ?_;rintro e w' ⟨rfl,rfl⟩)
 go_ret;exact⟨ret_bool (zu hn).symm,rfl⟩
theorem rletter_E (c:UInt8) (w:World) (h1:c.toNat=96):Calls Tryz.prog 29 #[.int .u8 c.toNat] w fun e w'=>e = .returned (.bool (nm c))∧w' = w:=by
 have h:=c.toNat_lt;have e95:((c.toNat:Int) == 95)=false:=by simp;omega
 have hn:=zh (nm_no c (by omega));have i0:¬ ((97:Int)≤c.toNat):=by omega
 have i1:(65:Int)≤c.toNat:=by omega
 have i2:¬ ((c.toNat:Int)≤90):=by omega
 clear h1
 go_enter Tryz.func29,Tryz.ntmps29
 go_wp2_with (go_at_call 27;refine(rdigit_any _ _).mono ?_;rintro e w' ⟨rfl,rfl⟩)
 go_ret;exact⟨ret_bool (zu hn).symm,rfl⟩
theorem rletter_F (c:UInt8) (w:World) (h1:97≤c.toNat∧c.toNat≤122):Calls Tryz.prog 29 #[.int .u8 c.toNat] w fun e w'=>e = .returned (.bool (nm c))∧w' = w:=by
 have h:=c.toNat_lt;have e95:((c.toNat:Int) == 95)=false:=by simp;omega
 have hn:=zh (nm_yes c (by omega));have i0:(97:Int)≤c.toNat:=by omega
 have i1:(c.toNat:Int)≤122:=by omega
 clear h1
 go_enter Tryz.func29,Tryz.ntmps29
 go_wp2_with (go_at_call 27;refine(rdigit_any _ _).mono ?_;rintro e w' ⟨rfl,rfl⟩)
 go_ret;exact⟨ret_bool (zu hn).symm,rfl⟩
theorem rletter_G (c:UInt8) (w:World) (h1:122 < c.toNat):Calls Tryz.prog 29 #[.int .u8 c.toNat] w fun e w'=>e = .returned (.bool (nm c))∧w' = w:=by
 have h:=c.toNat_lt;have e95:((c.toNat:Int) == 95)=false:=by simp;omega
 have hn:=zh (nm_no c (by omega));have i0:(97:Int)≤c.toNat:=by omega
 have i1:¬ ((c.toNat:Int)≤122):=by omega
 have i2:(65:Int)≤c.toNat:=by omega
 have i3:¬ ((c.toNat:Int)≤90):=by omega
 clear h1
 go_enter Tryz.func29,Tryz.ntmps29
 go_wp2_with (go_at_call 27;refine(rdigit_any _ _).mono ?_;rintro e w' ⟨rfl,rfl⟩)
 go_ret;exact⟨ret_bool (zu hn).symm,rfl⟩
theorem rletter_any (c:UInt8) (w:World):Calls Tryz.prog 29 #[.int .u8 c.toNat] w fun e w'=>e = .returned (.bool (nm c))∧w' = w:=by
 have h:=c.toNat_lt;rcases (show (c.toNat < 65)∨(65≤c.toNat∧c.toNat≤90)∨(90 < c.toNat∧c.toNat < 95)∨(c.toNat=95)∨(c.toNat=96)∨(97≤c.toNat∧c.toNat≤122)∨(122 < c.toNat) by omega) with h | h | h | h | h | h | h
 ·exact rletter_A c w h
 ·exact rletter_B c w h
 ·exact rletter_C c w h
 ·exact rletter_D c w h
 ·exact rletter_E c w h
 ·exact rletter_F c w h
 ·exact rletter_G c w h
theorem ret_ib {a b:Int} {p q:Bool} (h:a=b) (k:p=q):Ending.returned (.tuple #[.int .i64 a,.bool p]) = .returned (.tuple #[.int .i64 b,.bool q]):=by rw[h,k]
def numR (l:List UInt8):Option Nat:=if dv 0 l≤9223372036854775807 then some (dv 0 l) else none
theorem rnumber_any (s:ByteArray) (w:World) (hs:s.size≤4000) (hd:∀ c ∈ L s,dg c=true) :
  Calls Tryz.prog 28 #[.string s] w fun e w'=>e = .returned (.tuple #[.int .i64 ((numR (L s)).getD 0:Nat),.bool (numR (L s)).isSome])∧w' = w:=by
 go_enter Tryz.func28,Tryz.ntmps28
 go_wp2
 go_loop [4,5] (fun v i => ∃ k m:Nat,k≤s.size∧i = .int .i64 k∧v = .int .i64 m∧m≤9223372036854775807∧Hd (dv 0 (L s)=dv m ((L s).drop k))) (fun _ i=>s.size - (intOf i).toNat)
 case atStart=>exact⟨0,0,Nat.zero_le _,rfl,rfl,by omega,by rw[List.drop_zero];exact rfl⟩
 case round =>
  obtain⟨k,m,hk,rfl,rfl,hm,hI⟩:=hrel;by_cases hlt:k < s.size
  ·have hdg:dg s[k]=true:=hd _ (List.mem_of_getElem? (L_get s k hlt))
   have hdn:=(dg_iff _).1 hdg;obtain⟨d,hd'⟩:∃ d,d=s[k].toNat - 48:=⟨_,rfl⟩;have hsub:(s[k].toNat:Int) - 48=(d:Int):=by omega
   have hd9:d≤9:=by omega
   have E:Hd (dv 0 (L s)=dv (m * 10+d) ((L s).drop (k+1))):=by
    rw[zu hI,L_drop s k hlt,dv_cons,← hd'];exact rfl
   have hsn:48≤(s[k].toNat:Int):=by omega
   clear hd' hdn hdg;by_cases hb:m * 10+d≤9223372036854775807
   ·have hq:¬ ((9223372036854775807 - (d:Int)) / 10 < (m:Int)):=by omega
    go_wp2
    go_round
    case rel=>exact⟨k+1,m * 10+d,by omega,by go_num,by go_num,hb,E⟩
    case measure=>simp[intOf];omega
   ·have hq:(9223372036854775807 - (d:Int)) / 10 < (m:Int):=by omega
    have G:Hd (numR (L s)=none):=by
     have:=dv_ge ((L s).drop (k+1)) (m * 10+d);unfold numR;rw[if_neg (by rw[zu E];omega)];exact rfl
    go_wp2
    go_ret2
    exact⟨ret_ib (by rw[zu G];rfl) (by rw[zu G];rfl),rfl⟩
  ·have E:Hd (numR (L s)=some m):=by
    unfold numR;rw[zu hI,L_end s k (by omega),dv_nil,if_pos hm];exact rfl
   go_wp2
   go_ret2
   exact⟨ret_ib (by rw[zu E];rfl) (by rw[zu E];rfl),rfl⟩
def wds:List (List UInt8):=[[102,110],[108,101,116],[105,102],[101,108,115,101],[119,104,105,108,101],[98,114,101,97,107],[99,111,110,116,105,110,117,101],[114,101,116,117,114,110],[112,114,105,110,116],[110,105,108]]
theorem word_any (l:List UInt8):wordL l=wds.any fun x=>x == l:=by
 have hc:(wds.any fun x=>x == l)=wds.any fun x=>l == x:=congrArg (wds.any ·) (funext fun x=>by rw[Bool.eq_iff_iff,beq_iff_eq,beq_iff_eq];exact eq_comm);rw[hc];simp only[wds,List.any_cons,List.any_nil,wordL,Bool.or_false,Bool.or_assoc]
theorem risWord_any (s:ByteArray) (w:World) :
  Calls Tryz.prog 30 #[.string s] w fun e w'=>e = .returned (.bool (wordL (L s)))∧Ext w w':=by
 have K:Hd (wordL (L s)=wds.any fun x=>x == s.toList):=by rw[toL,word_any];exact rfl
 go_enter Tryz.func30,Tryz.ntmps30
 go_wp2
 obtain⟨W1,hW1⟩:∃ W1,W1=w.alloc (Obj.cells #[Value.string { data:=#[102,110] },Value.string { data:=#[108,101,116] },Value.string { data:=#[105,102] },Value.string { data:=#[101,108,115,101] },Value.string { data:=#[119,104,105,108,101] },Value.string { data:=#[98,114,101,97,107] },Value.string { data:=#[99,111,110,116,105,110,117,101] },Value.string { data:=#[114,101,116,117,114,110] },Value.string { data:=#[112,114,105,110,116] },Value.string { data:=#[110,105,108] }] 9):=⟨_,rfl⟩;rw[← hW1];have hcell:∀ k (hk:k < 10),W1.cell? ⟨w.heap.size,k,none⟩=some (.string ⟨(wds[k]'(by exact hk)).toArray⟩):=by
  intro k hk;rw[hW1];refine cell_box w _ _ k ?_;rcases (show k=0∨k=1∨k=2∨k=3∨k=4∨k=5∨k=6∨k=7∨k=8∨k=9 by omega) with rfl | rfl | rfl | rfl | rfl | rfl | rfl | rfl | rfl | rfl <;> rfl
 have X:Hd (Ext w W1):=by rw[hW1];exact Ext.alloc _ _
 clear hW1
 go_loop [4] (fun i => ∃ k:Nat,k≤10∧i = .int .i64 k∧Hd (((wds.take k).any fun x=>x == s.toList)=false)) (fun i => 10 - (intOf i).toNat)
 case atStart=>exact⟨0,Nat.zero_le _,rfl,rfl⟩
 case round =>
  obtain⟨k,hk,rfl,hI⟩:=hrel;by_cases hlt:k < 10
  ·have hc:=hcell k hlt
   have hts:wds.take (k+1)=wds.take k++[wds[k]'(by exact hlt)]:=List.take_succ_eq_append_getElem (by exact hlt);have TS:=zh hts;clear hts;have htl:(⟨(wds[k]'(by exact hlt)).toArray⟩:ByteArray).toList=wds[k]'(by exact hlt):=ByteArray.toList_mk _;have HM:Hd (wds[k]'(by exact hlt) ∈ wds):=List.getElem_mem _;obtain⟨x,hx⟩:∃ x,x=wds[k]'(by exact hlt):=⟨_,rfl⟩;rw[← hx] at hc TS htl HM;clear hx hcell;cases hb:(x == s.toList) with
   | true =>
    go_wp2
    go_ret;refine⟨ret_bool ?_,zu X⟩;rw[zu K];exact(List.any_eq_true.2 ⟨x,zu HM,hb⟩).symm
   | false =>
    have hN:Hd (((wds.take (k+1)).any fun x=>x == s.toList)=false):=by
     rw[zu TS,List.any_append,zu hI];show (false || ((x == s.toList) || false))=false;rw[hb];rfl
    go_wp2
    go_round
    case rel=>exact⟨k+1,by omega,by go_num,hN⟩
    case measure=>simp[intOf];omega
  ·have hF:Hd (wordL (L s)=false):=by
    rw[zu K];have:=zu hI;rw[List.take_of_length_le (by show 10≤k;omega)] at this;exact this
   go_wp2
   go_ret;exact⟨ret_bool (zu hF).symm,zu X⟩
end
end Go.Proofs.YtjnpehohialmbaaGreat
