/- The document's maker: while. -/
import Derived.Laws.AppendOwnNone
import Derived.Test.YtjnpehohialmbaaGreatZs45
import Derived.Test.YtjnpehohialmbaaGreatZs26
import Derived.Test.YtjnpehohialmbaaGreatZs35
set_option linter.unusedSimpArgs false
set_option linter.unusedVariables false
set_option maxRecDepth 10000
set_option maxHeartbeats 2000000
namespace Go.Proofs.YtjnpehohialmbaaGreat
open Go.RowKit
section
variable {g:Nat} {w w0 w1 w' w2:World} {h:RHd} {sl cl:List Int} {d d':RG} {ka ca ba na:Option Addr} {kc cc bc nc:Nat} {nd:PN→RG→Option RG}
theorem run_append_owned0 {P:Program} (base:Nat) (t ty e:TypeId) (i:TypeInfo) (size:Nat) (ht:P.underlying t=some (.slice e)) (hi:P.info? e=some i) (v:Value) (n:Nat) (xs:List Value) (hown:w.ownsRow base e size v n xs) (ao:Option Addr) (c:Nat) :
  (Builtin.append_ #[t,t] ty #[v,.slice ao 0 c]).run P w = .ok v w:=by
 cases ao with
 | none =>
  rcases hown.2 with⟨rfl,rfl⟩ | ⟨g,cap,cur,rfl,_,_,hnc,_⟩
  ·simp[Builtin.append_,run_underlying ht,sizeOf,typeInfo,hi,Builtin.lenOf,Builtin.firstCells]
  ·simp[Builtin.append_,run_underlying ht,sizeOf,typeInfo,hi,Builtin.lenOf,Builtin.firstCells,hnc,storeCells]
 | some ad =>
  rcases hown.2 with⟨rfl,rfl⟩ | ⟨g,cap,cur,rfl,_,_,hnc,_⟩
  ·simp[Builtin.append_,run_underlying ht,sizeOf,typeInfo,hi,Builtin.lenOf,Builtin.firstCells,loadCells,loadCellsFrom]
  ·simp[Builtin.append_,run_underlying ht,sizeOf,typeInfo,hi,Builtin.lenOf,Builtin.firstCells,hnc,storeCells,loadCells,loadCellsFrom]
theorem wpList_append_own0 {P:Program} {ops:Array Oper} {rest:List Oper} {o:Oper} {a:Act} {Q:Exit→Act→World→Prop} (hgd:o.guard=none) (s x:Operand) (t:TypeId)
  (ho:o.op = .call { callee:=.builtin .append,args:=#[s,x],argTypes:=#[t,t] })
  (base:Nat) (e:TypeId) (i:TypeInfo) (size:Nat) (ht:P.underlying t=some (.slice e)) (hi:P.info? e=some i)
  (v:Value) (n:Nat) (xs:List Value) (hs:a.eval s=v) (hown:w.ownsRow base e size v n xs) (ao:Option Addr) (c:Nat) (hx:a.eval x = .slice ao 0 c)
  (h:wpList P ops Q rest (a.put o.dst v) w):wpList P ops Q (o :: rest) a w:=by
 refine wpList_plain hgd fun K hK => ?_;have hrun:=run_append_owned0 (P:=P) (w:=w) base t o.type e i size ht hi v n xs hown ao c;unfold Oper.wp;simp[execOp,ho,resolve,invoke,builtin,hs,hx,hrun,Result.andThen];exact hK _ _ h
theorem own_num {base n:Nat} {l:List Nat} {a:Option Addr} {c:Nat} (ho:w.ownsRow base 3 1 (.slice a n c) n (nsI l)) (hn:n=l.length):NumAt w l a:=by
 subst hn;rcases ho.2 with⟨e,e0⟩ | ⟨b,cap,cur,e,hb,hg,hnc,_,hsz,htk⟩
 ·exact Or.inl (List.eq_nil_of_length_eq_zero e0)
 ·injection e with e1 e2 e3
  subst e1;refine Or.inr ⟨b,cur,_,rfl,hg,fun j x hx => ?_⟩;have hj:j < l.length:=(List.getElem?_eq_some_iff.1 hx).1;have:=congrArg (fun q=>q[j]?) htk;simp only[Nat.mul_one] at this;rw[List.getElem?_take,if_pos (by omega)] at this;rw[← Array.getElem?_toList,this];simp[nsI,hx]
theorem RF.weak (f:RF g none none w w'):RF g ba na w w':=⟨f.os,f.tape,f.output,f.size,f.low,fun b cs t fr hb h1 h2 h3 _ _=>f.typ b cs t fr hb h1 h2 h3 (fun e=>by cases e) (fun e=>by cases e)⟩
theorem own_rf {n:Nat} {v:Value} {xs:List Value} (ho:w.ownsRow (g+1) 3 1 v n xs) (f:RF g none none w w'):w'.ownsRow (g+1) 3 1 v n xs:=by
 refine own_keepM ho (fun q hq => ?_);rcases ho.2 with⟨e,e0⟩ | ⟨b,cap,cur,e,hb,hg,_⟩
 ·rw[e] at hq;cases hq
 ·rw[e] at hq
  simp only[Value.ownBlock,Option.some.injEq] at hq;subst hq;rw[hg];exact f.typ b _ _ _ hg (by omega) (by decide) (by decide) (fun e=>by cases e) (fun e=>by cases e)
theorem RS.clr (x:RS g w h sl cl d ka kc ca cc ba bc na nc):RS g ((w.setCell ⟨g,12,none⟩ (.slice none 0 0)).setCell ⟨g,13,none⟩ (.slice none 0 0)) h sl cl { d with br:=[],nx:=[] } ka kc ca cc none 0 none 0:=by
 have k:∀ b,b < g→((w.setCell ⟨g,12,none⟩ (.slice none 0 0)).setCell ⟨g,13,none⟩ (.slice none 0 0)).heap[b]? = w.heap[b]?:=fun b hb=>by
  rw[Below.heap_setCell _ _ _ _ (by show b≠g;omega),Below.heap_setCell _ _ _ _ (by show b≠g;omega)]
 exact⟨row_set (row_set x.row 12 _) 13 _,ownsRow_setCell_below (ownsRow_setCell_below x.ok (Nat.lt_succ_self g) _) (Nat.lt_succ_self g) _,ownsRow_setCell_below (ownsRow_setCell_below x.oc (Nat.lt_succ_self g) _) (Nat.lt_succ_self g) _,⟨rfl,Or.inl ⟨rfl,rfl⟩⟩,⟨rfl,Or.inl ⟨rfl,rfl⟩⟩,Or.inl rfl,x.sl.to (fun b hb=>⟨hb,k b hb⟩),x.cl.to (fun b hb=>⟨hb,k b hb⟩)⟩
theorem RS.back (x:RS g w h sl cl d ka kc ca cc ba bc na nc) {l1 l2:List Nat} {a1 a2:Option Addr} {c1 c2:Nat} (o1:w.ownsRow (g+1) 3 1 (.slice a1 l1.length c1) l1.length (nsI l1)) (o2:w.ownsRow (g+1) 3 1 (.slice a2 l2.length c2) l2.length (nsI l2)) (ap:V.obk a1=none∨V.obk a1≠V.obk a2):RS g ((w.setCell ⟨g,12,none⟩ (.slice a1 l1.length c1)).setCell ⟨g,13,none⟩ (.slice a2 l2.length c2)) h sl cl { d with br:=l1,nx:=l2 } ka kc ca cc a1 c1 a2 c2:=by
 have k:∀ b,b < g→((w.setCell ⟨g,12,none⟩ (.slice a1 l1.length c1)).setCell ⟨g,13,none⟩ (.slice a2 l2.length c2)).heap[b]? = w.heap[b]?:=fun b hb=>by
  rw[Below.heap_setCell _ _ _ _ (by show b≠g;omega),Below.heap_setCell _ _ _ _ (by show b≠g;omega)]
 exact⟨row_set (row_set x.row 12 _) 13 _,ownsRow_setCell_below (ownsRow_setCell_below x.ok (Nat.lt_succ_self g) _) (Nat.lt_succ_self g) _,ownsRow_setCell_below (ownsRow_setCell_below x.oc (Nat.lt_succ_self g) _) (Nat.lt_succ_self g) _,ownsRow_setCell_below (ownsRow_setCell_below o1 (Nat.lt_succ_self g) _) (Nat.lt_succ_self g) _,ownsRow_setCell_below (ownsRow_setCell_below o2 (Nat.lt_succ_self g) _) (Nat.lt_succ_self g) _,ap,x.sl.to (fun b hb=>⟨hb,k b hb⟩),x.cl.to (fun b hb=>⟨hb,k b hb⟩)⟩
theorem extR_grown {ob:Obj} {w6:World} (hgw:(w.alloc ob).grownBy w6 (some w.heap.size)):Ext w w6 :=
 { os:=hgw.os,tape:=hgw.tape,output:=hgw.output,size:=Nat.le_trans (Ext.alloc w ob).size hgw.size,block:=fun k hk=>(hgw.block k (Nat.lt_of_lt_of_le hk (Ext.alloc w ob).size) (fun e=>by injection e with e;omega)).trans ((Ext.alloc w ob).block k hk) }
theorem BxK.clr {B:Nat} {k o n:Int} {s:ByteArray} {v:Value} (b:BxK g ba na w B k o s n v) (u1 u2:Value):BxK g none none ((w.setCell ⟨g,12,none⟩ u1).setCell ⟨g,13,none⟩ u2) B k o s n v :=
 ⟨by rw[Below.heap_setCell _ _ _ _ (by show B≠g;exact b.ne),Below.heap_setCell _ _ _ _ (by show B≠g;exact b.ne)];exact b.row,b.ne,(by intro e;cases e),(by intro e;cases e)⟩
theorem Kid.low2 {b o:Nat} {c0 c1 c2 c3 c4:Value} {q:PN} (k:Kid g w b o c0 c1 c2 c3 c4 q) (hk:∀ b,b < g→w'.heap[b]? = w.heap[b]?):Kid g w' b o c0 c1 c2 c3 c4 q:=by
 have e:∀ o,w'.cell? ⟨b,o,none⟩=w.cell? ⟨b,o,none⟩:=fun o=>World.cell?_of_block (w:=w) (hk b k.low);exact⟨k.low,by rw[e,e,e,e,e];exact k.c,RepN.to (fun b hb=>⟨hb,hk b hb⟩) _ _ k.rep⟩
theorem set12_low (u1 u2:Value):∀ b,b < g→((w.setCell ⟨g,12,none⟩ u1).setCell ⟨g,13,none⟩ u2).heap[b]? = w.heap[b]?:=fun b hb=>by
 rw[Below.heap_setCell _ _ _ _ (by show b≠g;omega),Below.heap_setCell _ _ _ _ (by show b≠g;omega)]
theorem one_nsI (l:List Nat):∀ u ∈ nsI l,u.oneCell' = true:=by
 intro u hu;obtain⟨j,_,rfl⟩:=List.mem_map.1 hu;exact one_int (j:Int) _ (by simp)
theorem own_pos {base n:Nat} {l:List Nat} {a:Option Addr} {c:Nat} (ho:w.ownsRow base 3 1 (.slice a n c) n (nsI l)) (h0:0 < n):∃ b,a=some ⟨b,0,none⟩∧∀ W,Ext w W→∀ (j:Nat) (u:Value),(nsI l)[j]? = some u→W.cell? ((⟨b,0,none⟩:Addr).add j)=some u:=by
 rcases id ho.2 with⟨e,e0⟩ | ⟨b,cap,cur,e,hb,hg,hnc,_,hsz,htk⟩
 ·omega
 ·injection e with e1 e2 e3
  subst e1 e3;exact⟨b,rfl,fun W x j u hu=>x.cell (ho.cells (g:=b) rfl j u hu)⟩
theorem rloop_m (I:NdOk g h sl cl nd) (P:NdP nd) {o n:Int} {s:ByteArray} {p q:PN} {v:Value} (e:rWhile nd [p,q] d=some d') (ho:d.ok=true) (st:RS g w h sl cl d ka kc ca cc ba bc na nc) (hr:RepN w (fun b=>b < g) ⟨4,o,s,n,[p,q]⟩ v):Calls Tryz.prog 43 #[.pointer (some ⟨g,0,none⟩),v] w (RDone g w h sl cl d' ba na):=by
 rw[RepN] at hr;obtain⟨a,cap,rfl,hcap,hrl⟩:=hr;obtain⟨A0,BX,F0⟩:=st.box 4 o s n (.slice a 2 cap);have hrb:RepNL (w.alloc (nodO 4 o s n (.slice a 2 cap))) (fun b=>b < g) [p,q] a:=RepNL.to (fun b hb=>⟨hb,F0.low b hb⟩) _ a hrl;obtain⟨kb,ko,p0,p1,p2,p3,p4,q0,q1,q2,q3,q4,rfl,KP,KQ⟩:=kids2 hrb;obtain⟨m0,e0,e⟩:=rB_some e;obtain⟨e0,ok0⟩:=rG_some e0;obtain⟨m1,e1,e⟩:=rB_some e;obtain⟨ma,ea,e⟩:=rB_some e;obtain⟨ea,oka⟩:=rG_some ea;subst ea;obtain⟨m2,e2,e⟩:=rB_some e;obtain⟨m3,e3,e⟩:=rB_some e;obtain⟨e3,ok3⟩:=rG_some e3;obtain⟨e,hok⟩:=rG_some e;have o0:=rok_parts ho;have o1:=rok_parts ((P p m0 m1 e1).2 ok0);have o2:=rok_parts ((P q _ m2 e2).2 oka);have l2:=(P q _ m2 e2).1;rw[add_len] at l2;obtain⟨w1,hw1⟩:∃ w1,w1=w.alloc (nodO 4 o s n (.slice (some ⟨kb,ko,none⟩) 2 cap)):=⟨_,rfl⟩
 rw[← hw1] at A0 BX F0 KP KQ;have S1:RS g w1 h sl cl d ka kc ca cc ba bc na nc:=by rw[hw1];exact st.ext (Ext.alloc _ _)
 obtain⟨c3,c4,c6,c7,c8,c9,c10,c11,c12,c13,zf⟩:=rg_c S1.row;obtain⟨i0,hi,hz0,hz1,hz2⟩:=info_parts infoI;have HI:=zh hi;have Z0:=zh hz0;have Z1:=zh hz1;have Z2:=zh hz2;have HW1:=zh hw1;have hgn:=st.lt;clear hi hz0 hz1 hz2 hrb hrl A0 hw1
 go_enter Tryz.func43,Tryz.ntmps43
 go_wp2_with fail
 rw[← zu HW1];have hne:Nonempty (RGw w1):=⟨⟨w1,Ext.refl _⟩⟩;have y12:∀ y:RGw w1,y.w.cell? ⟨g,12,none⟩=some (.slice ba d.br.length bc):=fun y=>y.h.cell c12;have y13:∀ y:RGw w1,y.w.cell? ⟨g,13,none⟩=some (.slice na d.nx.length nc):=fun y=>y.h.cell c13;refine wp_region_rx (W:=w1) (by kernel_rfl) (by kernel_rfl) (Ext.refl _) ?_
 repeat (go_big_quiet_step (fail))
 refine wpQuiet_nil ?_;rintro w4 ⟨⟨_,hx4⟩,rfl⟩;have S4:=S1.ext hx4;have S5:RS g ((w4.setCell ⟨g,12,none⟩ (.slice none 0 0)).setCell ⟨g,13,none⟩ (.slice none 0 0)) h sl cl m0 ka kc ca cc none 0 none 0:=by rw[← e0];exact S4.clr
 have B4:BxK g ba na w4 w.heap.size 4 o s n (.slice (some ⟨kb,ko,none⟩) 2 cap):=⟨hx4.row BX.row,BX.ne,BX.nb,BX.nn⟩;have B5:BxK g none none ((w4.setCell ⟨g,12,none⟩ (.slice none 0 0)).setCell ⟨g,13,none⟩ (.slice none 0 0)) w.heap.size 4 o s n (.slice (some ⟨kb,ko,none⟩) 2 cap):=B4.clr _ _;have KP5:Kid g ((w4.setCell ⟨g,12,none⟩ (.slice none 0 0)).setCell ⟨g,13,none⟩ (.slice none 0 0)) kb ko p0 p1 p2 p3 p4 p:=(KP.low2 (fun b hb=>hx4.block b (by have:=S1.lt;omega))).low2 (set12_low _ _);have KQ5:Kid g ((w4.setCell ⟨g,12,none⟩ (.slice none 0 0)).setCell ⟨g,13,none⟩ (.slice none 0 0)) kb (ko+5) q0 q1 q2 q3 q4 q:=(KQ.low2 (fun b hb=>hx4.block b (by have:=S1.lt;omega))).low2 (set12_low _ _)
 have H0:=zh (fun (W:World) (x:RGAns g ((w4.setCell ⟨g,12,none⟩ (.slice none 0 0)).setCell ⟨g,13,none⟩ (.slice none 0 0)) h sl cl m0 none none W)=>I.k e1 ok0 x (KP5.at x).rep);have H1:=zh (fun (W:World) (x:RGAns g ((w4.setCell ⟨g,12,none⟩ (.slice none 0 0)).setCell ⟨g,13,none⟩ (.slice none 0 0)) h sl cl m1 none none W)=>radd_k x (by omega) 8 0 0);have H2:=zh (fun (W:World) (x:RGAns g ((w4.setCell ⟨g,12,none⟩ (.slice none 0 0)).setCell ⟨g,13,none⟩ (.slice none 0 0)) h sl cl (m1.add 8 0 0) none none W)=>I.k e2 oka x (KQ5.at x).rep);have H3:=zh (fun (W:World) (ka8:Option Addr) (kc8:Nat) (ca8:Option Addr) (cc8:Nat) (ba8:Option Addr) (bc8:Nat) (na8:Option Addr) (nc8:Nat) (S8:RS g W h sl cl m2 ka8 kc8 ca8 cc8 ba8 bc8 na8 nc8)=>rland_m S8 (by omega) m2.nx na8 nc8 o2.2.2.2.2.2.2 (own_num S8.on rfl) (by omega))
 have H4:=zh (fun (w8:World) (ba8 na8:Option Addr) (W:World) (x:RGAns g w8 h sl cl (m2.land m2.nx) ba8 na8 W)=>rtick_k x (by rw[land_len];omega) (by show 0≤m2.tk∧m2.tk≤_;omega));have H5:=zh (fun (w8:World) (ba8 na8:Option Addr) (W:World) (x:RGAns g w8 h sl cl (m2.land m2.nx).tick ba8 na8 W)=>radd_k x (by rw[rtick_len,land_len];omega) 7 (d.code.length:Int) 0);obtain⟨mt,hmt⟩:∃ mt,mt=(m2.land m2.nx).tick.add 7 (d.code.length:Int) 0:=⟨_,rfl⟩;have tl:mt.code.length=m2.code.length+2:=by rw[hmt,add_len,rtick_len,land_len]
 have tb:mt.br=m2.br:=by rw[hmt];rfl
 rw[← hmt] at H5 e3;have HN0:Hd (m2.br = []→∀ (w8:World) (ba8 na8:Option Addr) (W:World),RGAns g w8 h sl cl mt ba8 na8 W→Calls Tryz.prog 42 #[.pointer (some ⟨g,0,none⟩),.slice (some ⟨W.heap.size,0,none⟩) 1 1] (W.alloc (.cells #[.int .i64 (m1.code.length:Int)] 3 (0,0))) (RDone g w8 h sl cl m3 ba8 na8)):=fun hbr w8 ba8 na8 W x=>by
  have:=land1 x (by omega) m1.code.length (by omega);rw[hbr] at e3;rw[e3] at this;exact this
 have HP0:Hd (∀ (w8:World) (ba8 na8:Option Addr) (W:World) (la:Option Addr) (lc:Nat),RGAns g w8 h sl cl mt ba8 na8 W→NumAt W (m1.code.length :: m2.br) la→Calls Tryz.prog 42 #[.pointer (some ⟨g,0,none⟩),.slice la (1+m2.br.length) lc] W (RDone g w8 h sl cl m3 ba8 na8)):=fun w8 ba8 na8 W la lc x hn=>by
  have:=rland_k x (by omega) (m1.code.length :: m2.br) la lc (fun j hj=>by
   rcases List.mem_cons.1 hj with rfl | hj
   ·omega
   ·have:=o2.2.2.2.2.2.1 j hj;omega) hn (by simp;omega)
  rw[e3,List.length_cons,Nat.add_comm] at this;exact this
 have R0:Hd (RGAns g ((w4.setCell ⟨g,12,none⟩ (.slice none 0 0)).setCell ⟨g,13,none⟩ (.slice none 0 0)) h sl cl m0 none none ((w4.setCell ⟨g,12,none⟩ (.slice none 0 0)).setCell ⟨g,13,none⟩ (.slice none 0 0))):=S5.refl;obtain⟨b0,b1,b2,b3,b4⟩:=B5.c (zu R0);obtain⟨k0,k1,k2,k3,k4⟩:=KP5.c;have g4:((w4.setCell ⟨g,12,none⟩ (.slice none 0 0)).setCell ⟨g,13,none⟩ (.slice none 0 0)).cell? ⟨g,4,none⟩=some (.slice ka d.code.length kc):=by
  have:=(rg_c S5.row).2.1;rw[← e0] at this;exact this
 have d12:=hx4.cell c12;have d13:=hx4.cell c13;have zf4:=(rg_c S4.row).2.2.2.2.2.2.2.2.2.2;have HB:=zh B5;have HKQ:=zh KQ5;have HS4:=zh S4;have HO1:Hd (((w4.setCell ⟨g,12,none⟩ (.slice none 0 0)).setCell ⟨g,13,none⟩ (.slice none 0 0)).ownsRow (g+1) 3 1 (.slice ba d.br.length bc) d.br.length (nsI d.br)):=ownsRow_setCell_below (ownsRow_setCell_below S4.ob (Nat.lt_succ_self g) _) (Nat.lt_succ_self g) _;have HO2:Hd (((w4.setCell ⟨g,12,none⟩ (.slice none 0 0)).setCell ⟨g,13,none⟩ (.slice none 0 0)).ownsRow (g+1) 3 1 (.slice na d.nx.length nc) d.nx.length (nsI d.nx)):=ownsRow_setCell_below (ownsRow_setCell_below S4.on (Nat.lt_succ_self g) _) (Nat.lt_succ_self g) _;have HAP:=zh S4.ap
 have HF4:Hd (RF g ba na w ((w4.setCell ⟨g,12,none⟩ (.slice none 0 0)).setCell ⟨g,13,none⟩ (.slice none 0 0))):=(((F0.trans (RF.of S1.lt hx4) (RNew.refl _ _) (RNew.refl _ _)).set 12 _).set 13 _);have HE3:=zh e3;have HE:=zh e;have HTB:=zh tb;have hML:m2.br.length≤50000:=by omega
 obtain⟨M,hM⟩:∃ M,M=m2.br.length:=⟨_,rfl⟩;have HM:=zh hM;rw[← hM] at hML;clear hM e e3 e0 e1 e2 ho ok0 oka ok3 hok o0 o1 o2 l2 I P S1 S4 S5 B4 B5 BX KP KQ KP5 KQ5 F0 hx4 y12 y13 c3 c4 c6 c7 c8 c9 c10 c11 c12 c13 zf st hmt tl tb hne hcap;rcases Nat.eq_zero_or_pos M with h0 | h0
 ·have hbr:m2.br = []:=List.eq_nil_of_length_eq_zero (by rw[← zu HM];exact h0)
  have HZ:=zh (zu HN0 hbr);subst h0
  go_wp2_with (first
   | (have G:=zu R0;clear G;go_at_call 16;refine Calls.mono (zu H0 _ (zu R0)) ?_;rintro e w6 ⟨rfl,hr⟩;have R1:=zh hr;clear hr R0 b0 b1 b2 b3 b4 k0 k1 k2 k3 k4 g4 d12 d13 zf4)
   | (have G:=zu R1;clear G;go_at_call 18;refine Calls.mono (zu H1 _ (zu R1)) ?_;rintro e w7 ⟨rfl,hr⟩;have R2:=zh hr;clear hr R1;obtain⟨b0,b1,b2,b3,b4⟩:=(zu HB).c (zu R2);obtain⟨k0,k1,k2,k3,k4⟩:=((zu HKQ).at (zu R2)).c)
   | (have G:=zu R2;clear G;go_at_call 16;refine Calls.mono (zu H2 _ (zu R2)) ?_;rintro e w8 ⟨rfl,ka8,kc8,ca8,cc8,ba8,bc8,na8,nc8,S8,F8,N8,M8⟩;clear R2 b0 b1 b2 b3 b4 k0 k1 k2 k3 k4;obtain⟨c3,c4,c6,c7,c8,c9,c10,c11,c12,c13,zf⟩:=rg_c S8.row;have HL:=zh (zu H3 w8 _ _ _ _ _ _ _ _ S8);have HF8:=zh F8;have HN8:=zh N8;have HM8:=zh M8;clear S8 F8 N8 M8)
   | (have G:=zu HL;clear G;go_at_call 42;refine Calls.mono (zu HL) ?_;rintro e w9 ⟨rfl,hr⟩;have R4:=zh hr;clear hr HL c3 c4 c6 c7 c8 c9 c10 c11 c12 c13 zf)
   | (have G:=zu R4;clear G;go_at_call 68;refine Calls.mono (zu H4 _ _ _ _ (zu R4)) ?_;rintro e w10 ⟨rfl,hr⟩;have R5:=zh hr;clear hr R4)
   | (have G:=zu R5;clear G;go_at_call 18;refine Calls.mono (zu H5 _ _ _ _ (zu R5)) ?_;rintro e w11 ⟨rfl,hr⟩;have R6:=zh hr;clear R5;obtain⟨ka9,kc9,ca9,cc9,ba9,bc9,na9,nc9,S9,F9,N9,M9⟩:=hr;have c12:=(rg_c S9.row).2.2.2.2.2.2.2.2.1;rw[zu HTB,hbr] at c12;have c12:w11.cell? ⟨g,12,none⟩=some (.slice ba9 0 bc9):=c12;have hg9:=S9.lt;have c12b:=fun ob=>(Ext.alloc w11 ob).cell c12;clear S9 F9 N9 M9 c12)
   | (at_builtin;refine wpList_append_own0 rfl (.tmp 55) (.tmp 59) 77 rfl (g+1) 3 i0 1 Tryz.underlying77 (zu HI) (.slice (some ⟨w11.heap.size,0,none⟩) 1 1) 1 [.int .i64 (m1.code.length:Int)] rfl (World.ownsRow_lit w11 _ 1 (by omega) (by decide) rfl) ba9 bc9 rfl ?_)
   | (have G:=zu R6;clear G;go_at_call 42;refine Calls.mono (zu HZ _ _ _ _ (zu R6)) ?_;rintro e w12 ⟨rfl,ka12,kc12,ca12,cc12,ba12,bc12,na12,nc12,S12,F12,N12,M12⟩;obtain⟨c3,c4,c6,c7,c8,c9,c10,c11,c12,c13,zf⟩:=rg_c S12.row;have HS:=zh S12;have HF12:=zh F12;clear S12 F12 N12 M12 R6))
  go_end0
  have hF:=(zu HF8).trans (zu HF12) (zu HN8) (zu HM8);have SB:=(zu HS).back (own_rf (zu HO1) hF) (own_rf (zu HO2) hF) (zu HAP);rw[zu HE] at SB;exact⟨rfl,_,_,_,_,_,_,_,_,SB,(((zu HF4).trans hF.weak (RNew.refl _ _) (RNew.refl _ _)).set 12 _).set 13 _,RNew.refl _ _,RNew.refl _ _⟩
 ·go_wp2_with (first
   | (have G:=zu R0;clear G;go_at_call 16;refine Calls.mono (zu H0 _ (zu R0)) ?_;rintro e w6 ⟨rfl,hr⟩;have R1:=zh hr;clear hr R0 b0 b1 b2 b3 b4 k0 k1 k2 k3 k4 g4 d12 d13 zf4)
   | (have G:=zu R1;clear G;go_at_call 18;refine Calls.mono (zu H1 _ (zu R1)) ?_;rintro e w7 ⟨rfl,hr⟩;have R2:=zh hr;clear hr R1;obtain⟨b0,b1,b2,b3,b4⟩:=(zu HB).c (zu R2);obtain⟨k0,k1,k2,k3,k4⟩:=((zu HKQ).at (zu R2)).c)
   | (have G:=zu R2;clear G;go_at_call 16;refine Calls.mono (zu H2 _ (zu R2)) ?_;rintro e w8 ⟨rfl,ka8,kc8,ca8,cc8,ba8,bc8,na8,nc8,S8,F8,N8,M8⟩;clear R2 b0 b1 b2 b3 b4 k0 k1 k2 k3 k4;obtain⟨c3,c4,c6,c7,c8,c9,c10,c11,c12,c13,zf⟩:=rg_c S8.row;have HL:=zh (zu H3 w8 _ _ _ _ _ _ _ _ S8);have HF8:=zh F8;have HN8:=zh N8;have HM8:=zh M8;clear S8 F8 N8 M8)
   | (have G:=zu HL;clear G;go_at_call 42;refine Calls.mono (zu HL) ?_;rintro e w9 ⟨rfl,hr⟩;have R4:=zh hr;clear hr HL c3 c4 c6 c7 c8 c9 c10 c11 c12 c13 zf)
   | (have G:=zu R4;clear G;go_at_call 68;refine Calls.mono (zu H4 _ _ _ _ (zu R4)) ?_;rintro e w10 ⟨rfl,hr⟩;have R5:=zh hr;clear hr R4)
   | (have G:=zu R5;clear G;go_at_call 18;refine Calls.mono (zu H5 _ _ _ _ (zu R5)) ?_;rintro e w11 ⟨rfl,hr⟩;have R6:=zh hr;clear R5;obtain⟨ka9,kc9,ca9,cc9,ba9,bc9,na9,nc9,S9,F9,N9,M9⟩:=hr;have c12:=(rg_c S9.row).2.2.2.2.2.2.2.2.1;rw[zu HTB,← zu HM] at c12;have hob:=S9.ob;rw[zu HTB,← zu HM] at hob;have hg9:=S9.lt;have c12b:=fun ob=>(Ext.alloc w11 ob).cell c12;clear S9 F9 N9 M9 c12;obtain⟨bb,hbb,hcs⟩:=own_pos hob h0;subst hbb;have hcb:=fun ob=>hcs (w11.alloc ob) (Ext.alloc w11 ob);clear hcs hob)
   | (at_builtin;refine wpList_append_where rfl (.tmp 55) (.tmp 59) 77 rfl (g+1) 3 i0 (.int .i64 0) 1 8 Tryz.underlying77 (zu HI) (zu Z0) (zu Z1) (zu Z2) rfl (by decide) (some ⟨w11.heap.size,0,none⟩) 1 1 [.int .i64 (m1.code.length:Int)] rfl (World.ownsRow_lit w11 _ 1 (by omega) (by decide) rfl) ⟨bb,0,none⟩ M bc9 (nsI m2.br) rfl h0 ?c1 (hcb _) (one_nsI _) ?c2 ?c3 ?c4 ?_))
  case c1=>simp[nsI,zu HM]
  case c2=>unfold maxLen;omega
  case c3=>omega
  case c4=>simp;omega
  intro g2 cap6 w6 ho6 hg6 hw6;have X6:=extR_grown hg6;have R6b:=zh ((zu R6).ext X6);have HN6:NumAt w6 (m1.code.length :: m2.br) (some ⟨g2,0,none⟩):=own_num (l:=m1.code.length :: m2.br) ho6 (by rw[zu HM];simp;omega);have HLL:=zu HP0 _ _ _ _ _ cap6 (zu R6b) HN6;rw[← zu HM] at HLL;have HL2:=zh HLL;clear HLL HN6 X6 ho6 hg6 hw6 R6 c12b hcb;have R6:=R6b;clear R6b
  go_wp2_with (go_at_call 42;refine Calls.mono (zu HL2) ?_;rintro e w12 ⟨rfl,ka12,kc12,ca12,cc12,ba12,bc12,na12,nc12,S12,F12,N12,M12⟩;obtain⟨c3,c4,c6,c7,c8,c9,c10,c11,c12,c13,zf⟩:=rg_c S12.row;have HS:=zh S12;have HF12:=zh F12;clear S12 F12 N12 M12 R6)
  go_end0
  have hF:=(zu HF8).trans (zu HF12) (zu HN8) (zu HM8);have SB:=(zu HS).back (own_rf (zu HO1) hF) (own_rf (zu HO2) hF) (zu HAP);rw[zu HE] at SB;exact⟨rfl,_,_,_,_,_,_,_,_,SB,(((zu HF4).trans hF.weak (RNew.refl _ _) (RNew.refl _ _)).set 12 _).set 13 _,RNew.refl _ _,RNew.refl _ _⟩
end
section
variable {g:Nat} {w w0 w1 w' w2:World} {h:RHd} {sl cl:List Int} {d d':RG} {ka ca ba na:Option Addr} {kc cc bc nc:Nat} {nd:PN→RG→Option RG}
theorem node_while (I:NdOk g h sl cl nd) (P:NdP nd) {o n:Int} {s:ByteArray} {p q:PN} {v:Value} (e:rWhile nd [p,q] d=some d') (ho:d.ok=true) (st:RS g w h sl cl d ka kc ca cc ba bc na nc) (hr:RepN w (fun b=>b < g) ⟨4,o,s,n,[p,q]⟩ v):Calls Tryz.prog 16 #[.pointer (some ⟨g,0,none⟩),v] w (RDone g w h sl cl d' ba na):=by
 have hr0:=hr;rw[RepN] at hr;obtain⟨a,cap,rfl,hcap,hrl⟩:=hr;obtain⟨A0,BX,F0⟩:=st.box 4 o s n (.slice a 2 cap);have H0:=zh (rloop_m I P e ho (st.ext (Ext.alloc w (nodO 4 o s n (.slice a 2 cap)))) (RepN.to (fun b hb=>⟨hb,F0.low b hb⟩) _ _ hr0));have HF:=zh F0;obtain⟨b0,b1,b2,b3,b4⟩:=BX.c A0;clear A0 BX F0 hrl hr0 st I P e ho
 go_enter Tryz.func16,Tryz.ntmps16
 go_wp2_with (go_at_call 43;refine Calls.mono (zu H0) ?_;rintro e w1 ⟨rfl,hr⟩;have R1:=zh hr;clear hr)
 go_end0
 exact⟨rfl,RGAns.on (zu HF) (zu R1)⟩
theorem node_expr {k o n:Int} {s:ByteArray} {l:List PN} {v:Value} (hk:11≤k) (st:RS g w h sl cl d ka kc ca cc ba bc na nc) (hr:RepN w (fun b=>b < g) ⟨k,o,s,n,l⟩ v) (HE:∀ W,RS g W h sl cl d ka kc ca cc ba bc na nc→RepN W (fun b=>b < g) ⟨k,o,s,n,l⟩ v→Calls Tryz.prog 44 #[.pointer (some ⟨g,0,none⟩),v] W (RDone g W h sl cl d' ba na)):Calls Tryz.prog 16 #[.pointer (some ⟨g,0,none⟩),v] w (RDone g w h sl cl d' ba na):=by
 have hr0:=hr;rw[RepN] at hr;obtain⟨a,cap,rfl,hcap,hrl⟩:=hr;obtain⟨A0,BX,F0⟩:=st.box k o s n (.slice a l.length cap);have H0:=zh (HE _ (st.ext (Ext.alloc w (nodO k o s n (.slice a l.length cap)))) (RepN.to (fun b hb=>⟨hb,F0.low b hb⟩) _ _ hr0));have HF:=zh F0;obtain⟨b0,b1,b2,b3,b4⟩:=BX.c A0;have k1:(k == 1)=false:=by simp;omega
 have k2:(k == 2)=false:=by simp;omega
 have k3:(k == 3)=false:=by simp;omega
 have k4:(k == 4)=false:=by simp;omega
 have k5:(k == 5)=false:=by simp;omega
 have k6:(k == 6)=false:=by simp;omega
 have k7:(k == 7)=false:=by simp;omega
 have k8:(k == 8)=false:=by simp;omega
 have k9:(k == 9)=false:=by simp;omega
 have k10:(k == 10)=false:=by simp;omega
 clear A0 BX F0 hrl hr0 st HE hk
 go_enter Tryz.func16,Tryz.ntmps16
 go_wp2_with (go_at_call 44;refine Calls.mono (zu H0) ?_;rintro e w1 ⟨rfl,hr⟩;have R1:=zh hr;clear hr)
 go_end0
 exact⟨rfl,RGAns.on (zu HF) (zu R1)⟩
theorem rThen_both (P:NdP nd) {op a:Int} {l:List PN} {m m':RG} (e:rThen nd op a l m=some m'):m.code.length≤m'.code.length∧m'.ok=true:=by
 obtain⟨m1,e1,e⟩:=rB_some e;obtain⟨rfl,hok⟩:=rG_some e;have:=(rAll_both P l m m1 e1).1;exact⟨by rw[add_len];omega,hok⟩
theorem rK_both (P:NdP nd) (x:PN) (m m':RG) (e:rK nd sl cl x m=some m'):m.code.length≤m'.code.length∧(m.ok=true→m'.ok=true):=by
 unfold rK at e;by_cases hk1:x.k=1
 ·rw[if_pos hk1] at e
  obtain⟨m1,e1,e⟩:=rB_some e;obtain⟨k,ek,e⟩:=rB_some e;obtain⟨rfl,hok⟩:=rG_some e;have:=(rAll_both P _ m m1 e1).1;exact⟨by rw[add_len];show _≤m1.code.length+1;omega,fun _=>hok⟩
 rw[if_neg hk1] at e;by_cases hk8:x.k=8
 ·rw[if_pos hk8] at e
  have:=rThen_both P e;exact⟨this.1,fun _=>this.2⟩
 rw[if_neg hk8] at e;by_cases hk7:x.k=7
 ·rw[if_pos hk7] at e
  obtain⟨m0,e0,e⟩:=rB_some e;obtain⟨e0,ok0⟩:=rG_some e0;have h1:=rThen_both P e;refine⟨Nat.le_trans ?_ h1.1,fun _=>h1.2⟩;rw[← e0]
  split
  ·rw[cst_len];omega
  ·exact Nat.le_refl _
 rw[if_neg hk7] at e;by_cases hk10:x.k=10
 ·rw[if_pos hk10] at e
  exact rAll_both P _ _ _ e
 rw[if_neg hk10] at e;by_cases hk15:x.k=15
 ·rw[if_pos hk15] at e
  obtain⟨rfl,hok⟩:=rG_some e;exact⟨by rw[cst_len];omega,fun _=>hok⟩
 rw[if_neg hk15] at e;by_cases hk16:x.k=16
 ·rw[if_pos hk16] at e
  split at e
  ·obtain⟨rfl,hok⟩:=rG_some e
   exact⟨by rw[cst_len];omega,fun _=>hok⟩
  ·cases e
 rw[if_neg hk16] at e;by_cases hk17:x.k=17
 ·rw[if_pos hk17] at e
  split at e
  ·obtain⟨rfl,hok⟩:=rG_some e
   exact⟨by rw[cst_len];omega,fun _=>hok⟩
  ·cases e
 rw[if_neg hk17] at e;by_cases hk18:x.k=18
 ·rw[if_pos hk18] at e
  obtain⟨rfl,hok⟩:=rG_some e;exact⟨by rw[cst_len];omega,fun _=>hok⟩
 rw[if_neg hk18] at e;by_cases hk19:x.k=19
 ·rw[if_pos hk19] at e
  obtain⟨k,ek,e⟩:=rB_some e;obtain⟨rfl,hok⟩:=rG_some e;exact⟨by rw[add_len];exact Nat.le_succ _,fun _=>hok⟩
 rw[if_neg hk19] at e;by_cases hk12:x.k=12
 ·rw[if_pos hk12] at e
  unfold rAnd at e
  split at e
  ·obtain⟨m1,e1,e⟩:=rB_some e
   obtain⟨ma,ea,e⟩:=rB_some e;obtain⟨rfl,oka⟩:=rG_some ea;obtain⟨m2,e2,e⟩:=rB_some e;obtain⟨rfl,hok⟩:=rG_some e;have h1:=(P _ _ _ e1).1;have h2:=(P _ _ _ e2).1;rw[add_len] at h2;exact⟨by rw[dec_len,add_len];omega,fun _=>hok⟩
  ·cases e
 rw[if_neg hk12] at e;by_cases hk13:x.k=13
 ·rw[if_pos hk13] at e
  unfold rOr at e
  split at e
  ·obtain⟨m1,e1,e⟩:=rB_some e
   obtain⟨ma,ea,e⟩:=rB_some e;obtain⟨rfl,oka⟩:=rG_some ea;obtain⟨m2,e2,e⟩:=rB_some e;obtain⟨rfl,hok⟩:=rG_some e;have h1:=(P _ _ _ e1).1;have h2:=(P _ _ _ e2).1;rw[add_len,add_len] at h2;exact⟨by rw[dec_len,add_len,add_len];omega,fun _=>hok⟩
  ·cases e
 rw[if_neg hk13] at e;by_cases hk20:x.k=20
 ·rw[if_pos hk20] at e
  obtain⟨m1,e1,e⟩:=rB_some e;obtain⟨k,ek,e⟩:=rB_some e;have h1:=(rAll_both P _ m m1 e1).1
  split at e
  ·split at e
   ·obtain⟨rfl,hok⟩:=rG_some e
    exact⟨by rw[add_len,rtick_len];exact Nat.le_trans h1 (Nat.le_succ_of_le (Nat.le_succ _)),fun _=>hok⟩
   ·split at e
    ·obtain⟨rfl,hok⟩:=rG_some e
     exact⟨by rw[add_len];exact Nat.le_succ_of_le h1,fun _=>hok⟩
    ·obtain⟨rfl,hok⟩:=rG_some e
     exact⟨by rw[add_len];exact Nat.le_succ_of_le h1,fun _=>hok⟩
  ·cases e
 rw[if_neg hk20] at e;cases e
theorem rN_all (g:Nat) (h:RHd) (sl cl:List Int):∀ f,NdOk g h sl cl (rN sl cl f)∧NdP (rN sl cl f):=by
 intro f
 induction f with
 | zero=>exact⟨(by intro x d d' e;cases e),(by intro x m m' e;cases e)⟩
 | succ f ih =>
  obtain⟨I,P⟩:=ih;refine⟨?_,fun x m m' e => ?_⟩
  ·intro x d d' e ho w ka kc ca cc ba bc na nc v st hr
   rw[rN] at e
   split at e
   ·cases e
   rename_i hl;obtain⟨k,o,s,n,l⟩:=x;have hl2:l.length≤1000000:=by have:¬ 1000000 < l.length:=hl;omega
   clear hl;unfold rK at e;by_cases hk1:k=1
   ·rw[if_pos hk1] at e
    subst hk1;exact node_let I P e ho hl2 st hr
   rw[if_neg hk1] at e;by_cases hk8:k=8
   ·rw[if_pos hk8] at e
    subst hk8;exact node_print I P e ho hl2 st hr
   rw[if_neg hk8] at e;by_cases hk7:k=7
   ·rw[if_pos hk7] at e
    subst hk7;cases l with
    | nil=>exact node_ret0 I P e ho st hr
    | cons y r=>exact node_ret1 I P e ho hl2 (by simp) st hr
   rw[if_neg hk7] at e;by_cases hk10:k=10
   ·rw[if_pos hk10] at e
    subst hk10;exact node_block I P e ho hl2 st hr
   rw[if_neg hk10] at e;by_cases hk15:k=15
   ·rw[if_pos hk15] at e
    subst hk15;exact node_expr (by decide) st hr (fun W s r=>expr_int I P e ho hl2 s r)
   rw[if_neg hk15] at e;by_cases hk16:k=16
   ·rw[if_pos hk16] at e
    split at e
    ·rename_i hn2
     have hn2:n=2:=hn2;subst hk16 hn2;exact node_expr (by decide) st hr (fun W s r=>expr_img I P e ho hl2 s r)
    ·cases e
   rw[if_neg hk16] at e;by_cases hk17:k=17
   ·rw[if_pos hk17] at e
    split at e
    ·rename_i hs0
     have hs0:s=⟨#[]⟩:=hs0;subst hk17 hs0;exact node_expr (by decide) st hr (fun W s r=>expr_txt I P e ho hl2 s r)
    ·cases e
   rw[if_neg hk17] at e;by_cases hk18:k=18
   ·rw[if_pos hk18] at e
    subst hk18;exact node_expr (by decide) st hr (fun W s r=>expr_nil I P e ho hl2 s r)
   rw[if_neg hk18] at e;by_cases hk19:k=19
   ·rw[if_pos hk19] at e
    subst hk19;exact node_expr (by decide) st hr (fun W s r=>expr_var I P e ho hl2 s r)
   rw[if_neg hk19] at e;by_cases hk12:k=12
   ·rw[if_pos hk12] at e
    subst hk12
    match l,e,hr with
    | [c,t],e,hr=>exact node_expr (by decide) st hr (fun W s r=>expr_and I P e ho s r)
   rw[if_neg hk12] at e;by_cases hk13:k=13
   ·rw[if_pos hk13] at e
    subst hk13
    match l,e,hr with
    | [c,t],e,hr=>exact node_expr (by decide) st hr (fun W s r=>expr_or I P e ho s r)
   rw[if_neg hk13] at e;by_cases hk20:k=20
   ·rw[if_pos hk20] at e
    subst hk20;exact node_expr (by decide) st hr (fun W s r=>expr_call I P e ho hl2 s r)
   rw[if_neg hk20] at e;cases e
  ·rw[rN] at e
   split at e
   ·cases e
   ·exact rK_both P x m m' e
end
section
variable {g:Nat} {w w' w2:World}
abbrev KAdR:=(Option Addr × Nat) × (Option Addr × Nat)
abbrev kfR (f:V.KF) (a:KAdR):List Value:=[.string f.nm,.int .i64 f.ps,.int .i64 f.lc,.slice a.1.1 f.cs.length a.1.2,.slice a.2.1 f.code.length a.2.2]
def kfsR:List V.KF→List KAdR→List Value
 | f :: r,a :: s=>kfR f a++kfsR r s
 | _,_ => []
theorem kfsR_app:∀ (l:List V.KF) (s:List KAdR) (f:V.KF) (a:KAdR),s.length=l.length→kfsR (l++[f]) (s++[a])=kfsR l s++kfR f a
 | [],[],f,a,h=>by simp[kfsR]
 | x :: l,y :: s,f,a,h=>by
  rw[List.cons_append,List.cons_append,kfsR,kfsR,kfsR_app l s f a (by simpa using h),List.append_assoc]
 | [],_ :: _,f,a,h=>by simp at h
 | _ :: _,[],f,a,h=>by simp at h
theorem kfsR_at:∀ (l:List V.KF) (s:List KAdR) (j:Nat) (f:V.KF) (a:KAdR),l[j]? = some f→s[j]? = some a→∀ r u,(kfR f a)[r]? = some u→(kfsR l s)[j * 5+r]? = some u
 | [],s,j,f,a,h,_=>by simp at h
 | x :: l,[],j,f,a,_,h=>by simp at h
 | x :: l,y :: s,0,f,a,h1,h2=>by
  obtain rfl:x=f:=by simpa using h1
  obtain rfl:y=a:=by simpa using h2
  intro r u hu;rw[kfsR,Nat.zero_mul,Nat.zero_add,List.getElem?_append_left (List.getElem?_eq_some_iff.1 hu).1];exact hu
 | x :: l,y :: s,j+1,f,a,h1,h2=>by
  intro r u hu;have ih:=kfsR_at l s j f a (by simpa using h1) (by simpa using h2) r u hu;rw[kfsR,show (j+1) * 5+r=(kfR x y).length+(j * 5+r) by simp;omega,List.getElem?_append_right (by omega),Nat.add_sub_cancel_left];exact ih
structure PgR (w0 wr:World) (bp:Nat) (xb:Option Nat) (m:Int) (fns:List V.KF) (ads:List KAdR) (pa:Option Addr) (pc:Nat):Prop where
 ext:Ext w0 wr
 ge:w0.heap.size≤bp
 row:wr.heap[bp]? = some (.cells #[.slice pa fns.length pc,.int .i64 m] 25 (0,0))
 len:ads.length=fns.length
 own:wr.ownsRow (bp+1) 82 5 (.slice pa fns.length pc) fns.length (kfsR fns ads)
 rep:∀ (i:Nat) (f:V.KF) (a:KAdR),fns[i]? = some f→ads[i]? = some a→V.RepL wr (fun q=>q < wr.heap.size∧bp < q∧(Value.slice pa fns.length pc).ownBlock≠some q∧xb≠some q) f.cs a.1.1∧V.RepC wr (fun q=>q < wr.heap.size∧bp < q∧(Value.slice pa fns.length pc).ownBlock≠some q∧xb≠some q) a.2.1 f.code
theorem PgR.lt {wr:World} {bp:Nat} {xb:Option Nat} {m:Int} {fns:List V.KF} {ads:List KAdR} {pa:Option Addr} {pc:Nat} (h:PgR w wr bp xb m fns ads pa pc):bp < wr.heap.size:=(Array.getElem?_eq_some_iff.1 h.row).1
theorem PgR.keep {wr w3:World} {bp:Nat} {xb:Option Nat} {m:Int} {fns:List V.KF} {ads:List KAdR} {pa:Option Addr} {pc:Nat} (h:PgR w wr bp xb m fns ads pa pc) (he:Ext w w3) (hs:wr.heap.size≤w3.heap.size) (hk:∀ q,q < wr.heap.size→w3.heap[q]? = wr.heap[q]?):PgR w w3 bp xb m fns ads pa pc :=
 ⟨he,h.ge,(hk bp h.lt).trans h.row,h.len,own_keepM h.own (fun q hq=>hk q (h.own.lt q hq).2),fun i f a h1 h2=>by
  obtain⟨r1,r2⟩:=h.rep i f a h1 h2;exact⟨V.RepL.to (fun q hq=>⟨⟨Nat.lt_of_lt_of_le hq.1 hs,hq.2⟩,hk q hq.1⟩) _ _ r1,r2.to (fun q hq=>⟨⟨Nat.lt_of_lt_of_le hq.1 hs,hq.2⟩,hk q hq.1⟩)⟩⟩
theorem PgR.on {wr w3:World} {bp:Nat} {xb:Option Nat} {m:Int} {fns:List V.KF} {ads:List KAdR} {pa:Option Addr} {pc:Nat} (h:PgR w wr bp xb m fns ads pa pc) (k:Ext wr w3):PgR w w3 bp xb m fns ads pa pc:=h.keep (h.ext.trans k) k.size k.block
theorem PgR.prog {wr:World} {bp:Nat} {xb:Option Nat} {m:Int} {fns:List V.KF} {ads:List KAdR} {pa:Option Addr} {pc:Nat} (h:PgR w wr bp xb m fns ads pa pc):V.RepP wr (fun q=>q < wr.heap.size∧bp < q) pa fns:=by
 rcases id h.own.2 with⟨e,e0⟩ | ⟨b,cap,cur,e,hb,hg,hn,_⟩
 ·exact Or.inl (List.length_eq_zero_iff.1 e0)
 ·injection e with e1 e2 e3
  subst e1 e3;refine Or.inr ⟨b,0,rfl,⟨(Array.getElem?_eq_some_iff.1 hg).1,by omega⟩,fun j f hf => ?_⟩;have hlt:=(List.getElem?_eq_some_iff.1 hf).1;obtain⟨a,ha⟩:∃ a,ads[j]? = some a:=⟨_,List.getElem?_eq_getElem (by rw[h.len];exact hlt)⟩;have hc:=kfsR_at fns ads j f a hf ha;have e:∀ n,(⟨b,0,none⟩:Addr).add n=⟨b,n,none⟩:=fun n=>by cases n <;> simp[Addr.add]
  have k0:=h.own.cells (g:=b) rfl _ _ (hc 0 _ rfl);have k1:=h.own.cells (g:=b) rfl _ _ (hc 1 _ rfl);have k2:=h.own.cells (g:=b) rfl _ _ (hc 2 _ rfl);have k3:=h.own.cells (g:=b) rfl _ _ (hc 3 _ rfl);have k4:=h.own.cells (g:=b) rfl _ _ (hc 4 _ rfl);rw[e] at k0 k1 k2 k3 k4;obtain⟨r1,r2⟩:=h.rep j f a hf ha;refine⟨a.1.1,a.1.2,a.2.1,a.2.2,?_⟩;rw[Nat.zero_add];exact⟨k0,k1,k2,k3,k4,V.RepL.to (fun q hq=>⟨⟨hq.1,hq.2.1⟩,rfl⟩) _ _ r1,r2.to (fun q hq=>⟨⟨hq.1,hq.2.1⟩,rfl⟩)⟩
theorem PgR.add {wr W w3:World} {bp:Nat} {xb:Option Nat} {m:Int} {fns:List V.KF} {ads:List KAdR} {pa:Option Addr} {pc g' cap':Nat} {ob:Obj} (hxb:∀ q,xb=some q→q < wr.heap.size) (h:PgR w wr bp xb m fns ads pa pc) (x:PgR w W bp xb m fns ads pa pc) (hsz:wr.heap.size≤W.heap.size) (f:V.KF) (a:KAdR)
  (hr:V.RepL W (fun q=>wr.heap.size≤q∧q < W.heap.size) f.cs a.1.1∧V.RepC W (fun q=>wr.heap.size≤q∧q < W.heap.size) a.2.1 f.code)
  (g1:(W.alloc ob).grownBy w3 (Value.slice pa fns.length pc).ownBlock)
  (ho:w3.ownsRow (bp+1) 82 5 (.slice (some ⟨g',0,none⟩) (fns.length+1) cap') (fns.length+1) (kfsR fns ads++kfR f a))
  (hw:(Value.slice pa fns.length pc).ownBlock=some g'∨W.heap.size+1≤g') :
  PgR w (w3.setCell ⟨bp,0,none⟩ (.slice (some ⟨g',0,none⟩) (fns.length+1) cap')) bp xb m (fns++[f]) (ads++[a]) (some ⟨g',0,none⟩) cap':=by
 have hbl:=h.lt;have hs1:(W.alloc ob).heap.size=W.heap.size+1:=by simp
 have hs3:=g1.size;have ownlt:∀ q,(Value.slice pa fns.length pc).ownBlock=some q→bp+1≤q∧q < wr.heap.size:=fun q e=>h.own.lt q e;have kp:∀ q,q < W.heap.size→(Value.slice pa fns.length pc).ownBlock≠some q→w3.heap[q]? = W.heap[q]?:=fun q hq hne=>(g1.block q (by omega) (fun e=>hne e.symm)).trans ((Ext.alloc W ob).block q hq);have hbp3:w3.heap[bp]? = some (.cells #[.slice pa fns.length pc,.int .i64 m] 25 (0,0)):=(kp bp (by omega) (fun e=>by have:=(ownlt bp e).1;omega)).trans x.row;have hbg:bp+1≤g':=(ho.lt g' rfl).1;have hl:(fns++[f]).length=fns.length+1:=by simp
 have e3:Ext w w3:=by
  refine Below.grown (x.ext.trans (Ext.alloc W ob)) g1 (x.ext.trans (Ext.alloc W ob)).size (fun j hj => ?_);have:=(ownlt j hj).1;have:=h.ge;omega
 have ks:∀ q,q≠bp→(w3.setCell ⟨bp,0,none⟩ (.slice (some ⟨g',0,none⟩) (fns.length+1) cap')).heap[q]? = w3.heap[q]?:=fun q hq=>Below.heap_setCell _ _ _ _ hq;have sz:(w3.setCell ⟨bp,0,none⟩ (.slice (some ⟨g',0,none⟩) (fns.length+1) cap')).heap.size=w3.heap.size:=by simp[World.setCell]
 refine⟨e3.set (p:=⟨bp,0,none⟩) h.ge _,h.ge,?_,by simp[h.len],?_,fun i f2 a2 h1 h2 => ?_⟩
 ·have:=row_set hbp3 0 (.slice (some ⟨g',0,none⟩) (fns.length+1) cap')
  rw[hl];exact this
 ·rw[kfsR_app _ _ _ _ h.len,hl]
  exact ownsRow_setCell_below ho (Nat.lt_succ_self bp) _
 ·rw[hl]
  have go:∀ (q:Nat),q < W.heap.size→bp < q→(Value.slice pa fns.length pc).ownBlock≠some q→xb≠some q→(q < (w3.setCell ⟨bp,0,none⟩ (.slice (some ⟨g',0,none⟩) (fns.length+1) cap')).heap.size∧bp < q∧(Value.slice (some (⟨g',0,none⟩:Addr)) (fns.length+1) cap').ownBlock≠some q∧xb≠some q)∧(w3.setCell ⟨bp,0,none⟩ (.slice (some ⟨g',0,none⟩) (fns.length+1) cap')).heap[q]? = W.heap[q]?:=fun q hq hne hnq hnx=>by
   refine⟨⟨by rw[sz];omega,hne,fun e => ?_,hnx⟩,(ks q (by omega)).trans (kp q hq hnq)⟩;simp only[Value.ownBlock,Option.some.injEq] at e;subst e;rcases hw with e | e
   ·exact hnq e
   ·omega
  by_cases hi:i < fns.length
  ·rw[List.getElem?_append_left hi] at h1
   rw[List.getElem?_append_left (by rw[h.len];exact hi)] at h2;obtain⟨r1,r2⟩:=x.rep i f2 a2 h1 h2;exact⟨V.RepL.to (fun q hq=>go q hq.1 hq.2.1 hq.2.2.1 hq.2.2.2) _ _ r1,r2.to (fun q hq=>go q hq.1 hq.2.1 hq.2.2.1 hq.2.2.2)⟩
  ·have h1':=(List.getElem?_eq_some_iff.1 h1).1
   rw[hl] at h1';obtain rfl:i=fns.length:=by omega
   rw[List.getElem?_append_right (by omega),Nat.sub_self] at h1;rw[List.getElem?_append_right (by rw[h.len];omega),h.len,Nat.sub_self] at h2;injection h1 with h1;injection h2 with h2;subst h1 h2;have go2:∀ q,wr.heap.size≤q∧q < W.heap.size→(q < (w3.setCell ⟨bp,0,none⟩ (.slice (some ⟨g',0,none⟩) (fns.length+1) cap')).heap.size∧bp < q∧(Value.slice (some (⟨g',0,none⟩:Addr)) (fns.length+1) cap').ownBlock≠some q∧xb≠some q)∧(w3.setCell ⟨bp,0,none⟩ (.slice (some ⟨g',0,none⟩) (fns.length+1) cap')).heap[q]? = W.heap[q]?:=fun q hq=>go q hq.2 (by omega) (fun e=>by have:=(ownlt q e).2;omega) (fun e=>by have:=hxb q e;omega);exact⟨V.RepL.to go2 _ _ hr.1,hr.2.to go2⟩
theorem PgR.grow {wr w3:World} {bp:Nat} {xb:Option Nat} {m:Int} {fns:List V.KF} {ads:List KAdR} {pa:Option Addr} {pc g':Nat} (h:PgR w wr bp xb m fns ads pa pc) (g1:wr.grownBy w3 xb) (hw:xb=some g'∨wr.heap.size≤g') (hb:∀ q,xb=some q→bp+1≤q) (ho:(Value.slice pa fns.length pc).ownBlock=none∨(Value.slice pa fns.length pc).ownBlock≠xb):PgR w w3 bp (some g') m fns ads pa pc:=by
 have hl:=h.lt;have k:∀ q,q < wr.heap.size→xb≠some q→w3.heap[q]? = wr.heap[q]?:=fun q hq hn=>g1.block q hq (fun e=>hn e.symm);have go:∀ q,q < wr.heap.size∧bp < q∧(Value.slice pa fns.length pc).ownBlock≠some q∧xb≠some q→(q < w3.heap.size∧bp < q∧(Value.slice pa fns.length pc).ownBlock≠some q∧some g'≠some q)∧w3.heap[q]? = wr.heap[q]?:=fun q hq=>by
  refine⟨⟨Nat.lt_of_lt_of_le hq.1 g1.size,hq.2.1,hq.2.2.1,fun e => ?_⟩,k q hq.1 hq.2.2.2⟩;rcases hw with hw | hw
  ·exact hq.2.2.2 (hw.trans e)
  ·injection e with e
   omega
 refine⟨Below.grown h.ext g1 h.ext.size (fun j hj => ?_),h.ge,(k bp hl (fun e=>by have:=hb bp e;omega)).trans h.row,h.len,h.own.kept g1 ho,fun i f a h1 h2 => ?_⟩
 ·have:=hb j hj
  have:=h.ge;omega
 ·obtain⟨r1,r2⟩:=h.rep i f a h1 h2
  exact⟨V.RepL.to go _ _ r1,r2.to go⟩
theorem PgR.setM {wr:World} {bp:Nat} {xb:Option Nat} {m m':Int} {fns:List V.KF} {ads:List KAdR} {pa:Option Addr} {pc:Nat} (h:PgR w wr bp xb m fns ads pa pc):PgR w (wr.setCell ⟨bp,1,none⟩ (.int .i64 m')) bp xb m' fns ads pa pc:=by
 have hs:(wr.setCell ⟨bp,1,none⟩ (.int .i64 m')).heap.size=wr.heap.size:=by simp[World.setCell]
 refine⟨h.ext.set (p:=⟨bp,1,none⟩) h.ge _,h.ge,row_set h.row 1 _,h.len,ownsRow_setCell_below h.own (Nat.lt_succ_self bp) _,fun i f a h1 h2 => ?_⟩;obtain⟨r1,r2⟩:=h.rep i f a h1 h2;have go:∀ q,q < wr.heap.size∧bp < q∧(Value.slice pa fns.length pc).ownBlock≠some q∧xb≠some q→(q < (wr.setCell ⟨bp,1,none⟩ (.int .i64 m')).heap.size∧bp < q∧(Value.slice pa fns.length pc).ownBlock≠some q∧xb≠some q)∧(wr.setCell ⟨bp,1,none⟩ (.int .i64 m')).heap[q]? = wr.heap[q]?:=fun q hq=>⟨⟨by rw[hs];exact hq.1,hq.2⟩,Below.heap_setCell _ _ _ _ (by show q≠bp;omega)⟩;exact⟨V.RepL.to go _ _ r1,r2.to go⟩
theorem RF.toExt {ba na:Option Addr} {W W5:World} (h:RF g ba na W W5) (x:Ext w W) (hg:w.heap.size≤g):Ext w W5 :=
 { os:=h.os.trans x.os,tape:=h.tape.trans x.tape,output:=h.output.trans x.output,size:=Nat.le_trans x.size h.size,block:=fun k hk=>(h.low k (by omega)).trans (x.block k hk) }
theorem repLR_of {F:Nat→Prop} {b:Nat} (hF:F b):∀ (l:List (Option V.RK)) (off:Nat),(∀ v ∈ l,V.rcB v=true)→(∀ (i:Nat) (u:Value),(l.flatMap V.rcC)[i]? = some u→w.cell? ⟨b,off+i,none⟩=some u)→V.RepL w F (l.map V.rcP) (some ⟨b,off,none⟩)
 | [],off,_,_=>by simp[V.RepL]
 | v :: l,off,hv,hc=>by
  rw[List.map_cons,V.RepL];have c0:=hc 0 (.int .i64 (V.rcK v)) rfl;have c1:=hc 1 (.int .i64 (V.rcN v)) rfl;have c2:=hc 2 (.complex .f64 0 (V.rcM v)) rfl;have c3:=hc 3 (.string ⟨#[]⟩) rfl;have c4:=hc 4 (.slice none 0 0) rfl;refine⟨b,off,_,_,_,_,_,rfl,hF,V.rc_rep v (hv v (by simp)) w F,by simpa using c0,c1,c2,c3,c4,repLR_of hF l (off+5) (fun u hu=>hv u (by simp[hu])) (fun i u hu => ?_)⟩;have:=hc (5+i) u (by rw[List.flatMap_cons,List.getElem?_append_right (by simp)];simpa using hu);rw[show off+5+i=off+(5+i) by omega];exact this
theorem RS.rows {hd:RHd} {sl cl:List Int} {d:RG} {ka ca ba na:Option Addr} {kc cc bc nc:Nat} (h:RS g w hd sl cl d ka kc ca cc ba bc na nc) (hb:d.cs.all V.rcB=true):V.RepL w (fun q=>g≤q∧q < w.heap.size) (d.cs.map V.rcP) ca∧V.RepC w (fun q=>g≤q∧q < w.heap.size) ka d.code:=by
 have e:∀ b n,(⟨b,0,none⟩:Addr).add n=⟨b,n,none⟩:=fun b n=>by cases n <;> simp[Addr.add]
 constructor
 ·rcases id h.oc.2 with⟨e1,e0⟩ | ⟨b,cap,cur,e1,hbb,hg,hn,_⟩
  ·rw[List.length_eq_zero_iff.1 e0]
   simp[V.RepL]
  ·injection e1 with e1 e2 e3
   subst e1 e3;refine repLR_of ⟨by omega,(Array.getElem?_eq_some_iff.1 hg).1⟩ d.cs 0 (fun v hv=>List.all_eq_true.1 hb v hv) (fun i u hu => ?_);have:=h.oc.cells (g:=b) rfl _ _ hu;rw[e] at this;rw[Nat.zero_add];exact this
 ·rcases id h.ok.2 with⟨e1,e0⟩ | ⟨b,cap,cur,e1,hbb,hg,hn,_⟩
  ·exact Or.inl (List.length_eq_zero_iff.1 e0)
  ·injection e1 with e1 e2 e3
   subst e1 e3;refine Or.inr ⟨b,0,rfl,⟨by omega,(Array.getElem?_eq_some_iff.1 hg).1⟩,fun j i hi => ?_⟩;obtain⟨k0,k1,k2⟩:=kiC_at d.code j i hi;have k0:=h.ok.cells (g:=b) rfl _ _ k0;have k1:=h.ok.cells (g:=b) rfl _ _ k1;have k2:=h.ok.cells (g:=b) rfl _ _ k2;rw[e] at k0 k1 k2;rw[Nat.zero_add];exact⟨k0,k1,k2⟩
end
section
variable {g:Nat} {w w' w2:World}
def rOne (f:Nat) (p:PFn) (s:PSc) (tk:Int):Option RG:=rB (rN s.sl s.cl f p.bd ⟨[],[],0,0,tk,[],[]⟩) fun m=>rG ((m.cst none).add 10 0 0)
def rKF (p:PFn) (s:PSc) (m:RG):V.KF:=⟨p.nm,(p.ps.length:Int),s.lc,m.cs.map V.rcP,m.code⟩
def rFns (f:Nat):List PFn→List PSc→Int→List V.KF→Option (List V.KF)
 | [],_,_,acc=>some acc
 | p :: r,s :: q,tk,acc=>match rOne f p s tk with
  | none=>none
  | some m=>if m.code.length≤1000∧m.tk≤4095 then rFns f r q m.tk (acc++[rKF p s m]) else none
 | _ :: _,[],_,_=>none
def isMain (p:PFn):Bool:=p.nm.toList == [109,97,105,110]
def rMain:List PFn→Nat→Int→Int
 | [],_,m=>m
 | p :: r,i,m=>rMain r (i+1) (if isMain p then (i:Int) else m)
abbrev prR (pa:Option Addr) (n pc:Nat) (m:Int):Obj:=.cells #[.slice pa n pc,.int .i64 m] 25 (0,0)
theorem RS.init {W:World} {h:RHd} {sl cl:List Int} {tk:Int} (hr:W.heap[g]? = some (rgO h sl.length cl.length (.slice none 0 0) (.slice none 0 0) 0 0 tk (.slice none 0 0) (.slice none 0 0))) (h1:RepO W (fun b=>b < g) sl h.sa) (h2:RepO W (fun b=>b < g) cl h.la):RS g W h sl cl ⟨[],[],0,0,tk,[],[]⟩ none 0 none 0 none 0 none 0 :=
 ⟨hr,World.ownsRow_nil _ _ _ _,World.ownsRow_nil _ _ _ _,World.ownsRow_nil _ _ _ _,World.ownsRow_nil _ _ _ _,Or.inl rfl,h1,h2⟩
theorem rowSc_atR {F:Nat→Prop}:∀ {ps:List PSc} {xs:List Value},RowSc w F ps xs→∀ (i:Nat) (p:PSc),ps[i]? = some p→∃ sa sc ca cc,xs[i * 3]? = some (.int .i64 p.lc)∧xs[i * 3+1]? = some (.slice sa p.sl.length sc)∧xs[i * 3+2]? = some (.slice ca p.cl.length cc)∧RepI w F sa p.sl∧RepI w F ca p.cl:=by
 intro ps
 induction ps with
 | nil=>intro xs _ i p h;simp at h
 | cons q ps ih =>
  intro xs hx i p hp;obtain⟨sa,sc,ca,cc,rest,rfl,h1,h2,h3,h4,hr⟩:=hx;cases i with
  | zero =>
   simp at hp;subst hp;exact⟨sa,sc,ca,cc,rfl,rfl,rfl,h2,h4⟩
  | succ j =>
   simp at hp;obtain⟨sa',sc',ca',cc',r0,r1,r2,r3,r4⟩:=ih hr j p hp;refine⟨sa',sc',ca',cc',?_,?_,?_,r3,r4⟩
   ·rw[show (j+1) * 3=3+j * 3 by omega,List.getElem?_append_right (by simp)];simpa using r0
   ·rw[show (j+1) * 3+1=3+(j * 3+1) by omega,List.getElem?_append_right (by simp)];simpa using r1
   ·rw[show (j+1) * 3+2=3+(j * 3+2) by omega,List.getElem?_append_right (by simp)];simpa using r2
theorem scAtR {F:Nat→Prop} {ps:List PSc} {a:Option Addr} {G:Nat} {W:World} (h:RepSc w F ps a) (hF:∀ b,F b→b < G) (i:Nat) (p:PSc) (hp:ps[i]? = some p) (hk:∀ b,b < G→W.heap[b]? = w.heap[b]?):∃ b sa sc ca cc,a=some ⟨b,0,none⟩∧W.cell? ⟨b,i * 3,none⟩=some (.int .i64 p.lc)∧W.cell? ⟨b,i * 3+1,none⟩=some (.slice sa p.sl.length sc)∧W.cell? ⟨b,i * 3+2,none⟩=some (.slice ca p.cl.length cc)∧b < G∧RepO W (fun b=>b < G) p.sl sa∧RepO W (fun b=>b < G) p.cl ca:=by
 rcases h with rfl | ⟨b,xs,rfl,hb,hrow,hc⟩
 ·simp at hp
 ·obtain⟨sa,sc,ca,cc,h1,h2,h3,h4,h5⟩:=rowSc_atR hrow i p hp
  have e:∀ o,W.cell? ⟨b,o,none⟩=w.cell? ⟨b,o,none⟩:=fun o=>World.cell?_of_block (w:=w) (hk b (hF b hb));have ri:∀ {l:List Int} {a:Option Addr},RepI w F a l→RepO W (fun b=>b < G) l a:=fun h=>by
   rcases h with h | ⟨b2,rfl,hb2,hc2⟩
   ·exact Or.inl h
   ·refine Or.inr ⟨b2,0,rfl,hF b2 hb2,fun j x hx => ?_⟩
    rw[Nat.zero_add,World.cell?_of_block (w:=w) (hk b2 (hF b2 hb2))];exact hc2 j x hx
  exact⟨b,sa,sc,ca,cc,rfl,by rw[e];exact hc _ _ h1,by rw[e];exact hc _ _ h2,by rw[e];exact hc _ _ h3,hF b hb,ri h4,ri h5⟩
end
end Go.Proofs.YtjnpehohialmbaaGreat
