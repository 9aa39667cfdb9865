/- The document's maker: any tree. -/
import Derived.Test.YtdnclahaejlehaaGreatZl3
import Derived.Test.YtdnclahaejlehaaGreatZk26
import Derived.Test.YtdnclahaejlehaaGreatZk34
set_option linter.unusedSimpArgs false
set_option linter.unusedVariables false
set_option maxRecDepth 10000
set_option maxHeartbeats 1000000
namespace Go.Proofs.YtdnclahaejlehaaGreat
open Go.RowKit
section
variable {g:Nat} {w w0 w1 w' w2:World} {h:RHd} {sl cl:List Int} {d d':RG} {ka ca ba na:Option Addr} {kc cc bc nc:Nat} {nd:PN→RG→Option RG}
theorem node_while (I:zM g h sl cl nd) (P:NdP nd) {o n:Int} {s:ByteArray} {p q:PN} {v:Value} (e:qI nd [p,q] d=some d') (ho:d.ok=true) (st:RS g w h sl cl d ka kc ca cc ba bc na nc) (hr:RepN w (fun b=>b < g) ⟨4,o,s,n,[p,q]⟩ v):Calls Tryz.prog 22 #[.pointer (some ⟨g,0,none⟩),v] w (zn g w h sl cl d' ba na):=by
 have hr0:=hr;rw[RepN] at hr;obtain⟨a,cap,rfl,hcap,hrl⟩:=hr;obtain⟨A0,BX,F0⟩:=st.box 4 o s n (.slice a 2 cap);have H0:=zh (rloop_m I P e ho (st.ext (Ext.alloc w (nodO 4 o s n (.slice a 2 cap)))) (RepN.to (fun b hb=>⟨hb,F0.low b hb⟩) _ _ hr0));have HF:=zh F0;obtain⟨b0,b1,b2,b3,b4⟩:=BX.c A0;clear A0 BX F0 hrl hr0 st I P e ho
 go_enter Tryz.func22,Tryz.ntmps22
 go_wp2_with (go_at_call 49;refine Calls.mono (zu H0) ?_;rintro e w1 ⟨rfl,hr⟩;have R1:=zh hr;clear hr)
 go_end0
 exact⟨rfl,za.on (zu HF) (zu R1)⟩
theorem qg {k o n:Int} {s:ByteArray} {l:List PN} {v:Value} (hk:11≤k) (st:RS g w h sl cl d ka kc ca cc ba bc na nc) (hr:RepN w (fun b=>b < g) ⟨k,o,s,n,l⟩ v) (HE:∀ W,RS g W h sl cl d ka kc ca cc ba bc na nc→RepN W (fun b=>b < g) ⟨k,o,s,n,l⟩ v→Calls Tryz.prog 50 #[.pointer (some ⟨g,0,none⟩),v] W (zn g W h sl cl d' ba na)):Calls Tryz.prog 22 #[.pointer (some ⟨g,0,none⟩),v] w (zn g w h sl cl d' ba na):=by
 have hr0:=hr;rw[RepN] at hr;obtain⟨a,cap,rfl,hcap,hrl⟩:=hr;obtain⟨A0,BX,F0⟩:=st.box k o s n (.slice a l.length cap);have H0:=zh (HE _ (st.ext (Ext.alloc w (nodO k o s n (.slice a l.length cap)))) (RepN.to (fun b hb=>⟨hb,F0.low b hb⟩) _ _ hr0));have HF:=zh F0;obtain⟨b0,b1,b2,b3,b4⟩:=BX.c A0;have k1:(k == 1)=false:=by simp;omega
 have k2:(k == 2)=false:=by simp;omega
 have k3:(k == 3)=false:=by simp;omega
 have k4:(k == 4)=false:=by simp;omega
 have k5:(k == 5)=false:=by simp;omega
 have k6:(k == 6)=false:=by simp;omega
 have k7:(k == 7)=false:=by simp;omega
 have k8:(k == 8)=false:=by simp;omega
 have k9:(k == 9)=false:=by simp;omega
 have k10:(k == 10)=false:=by simp;omega
 clear A0 BX F0 hrl hr0 st HE hk
 go_enter Tryz.func22,Tryz.ntmps22
 go_wp2_with (go_at_call 50;refine Calls.mono (zu H0) ?_;rintro e w1 ⟨rfl,hr⟩;have R1:=zh hr;clear hr)
 go_end0
 exact⟨rfl,za.on (zu HF) (zu R1)⟩
theorem zT (P:NdP nd) {op a:Int} {l:List PN} {m m':RG} (e:qF nd op a l m=some m'):m.code.length≤m'.code.length∧m'.ok=true:=by
 obtain⟨m1,e1,e⟩:=zc e;obtain⟨rfl,hok⟩:=zd e;have:=(zq P l m m1 e1).1;exact⟨by rw[zj];omega,hok⟩
theorem rK_both (P:NdP nd) (x:PN) (m m':RG) (e:rK nd sl cl x m=some m'):m.code.length≤m'.code.length∧(m.ok=true→m'.ok=true):=by
 unfold rK at e;by_cases hk1:x.k=1
 ·rw[if_pos hk1] at e
  obtain⟨m1,e1,e⟩:=zc e;obtain⟨k,ek,e⟩:=zc e;obtain⟨rfl,hok⟩:=zd e;have:=(zq P _ m m1 e1).1;exact⟨by rw[zj];show _≤m1.code.length+1;omega,fun _=>hok⟩
 rw[if_neg hk1] at e;by_cases hk2:x.k=2
 ·rw[if_pos hk2] at e
  obtain⟨k,ek,e⟩:=zc e;obtain⟨m0,e0,e⟩:=zc e;obtain⟨rfl,ok0⟩:=zd e0;obtain⟨m1,e1,e⟩:=zc e;obtain⟨rfl,hok⟩:=zd e;have:=(zq P _ _ m1 e1).1;exact⟨by rw[zj];exact Nat.le_succ_of_le this,fun _=>hok⟩
 rw[if_neg hk2] at e;by_cases hk8:x.k=8
 ·rw[if_pos hk8] at e
  have:=zT P e;exact⟨this.1,fun _=>this.2⟩
 rw[if_neg hk8] at e;by_cases hk7:x.k=7
 ·rw[if_pos hk7] at e
  obtain⟨m0,e0,e⟩:=zc e;obtain⟨e0,ok0⟩:=zd e0;have h1:=zT P e;refine⟨Nat.le_trans ?_ h1.1,fun _=>h1.2⟩;rw[← e0]
  split
  ·rw[qL];omega
  ·exact Nat.le_refl _
 rw[if_neg hk7] at e;by_cases hk10:x.k=10
 ·rw[if_pos hk10] at e
  exact zq P _ _ _ e
 rw[if_neg hk10] at e;by_cases hk3:x.k=3
 ·rw[if_pos hk3] at e
  unfold rIf at e
  split at e
  ·obtain⟨m1,e1,e⟩:=zc e
   obtain⟨ma,ea,e⟩:=zc e;obtain⟨rfl,oka⟩:=zd ea;obtain⟨m2,e2,e⟩:=zc e;obtain⟨rfl,hok⟩:=zd e;have h1:=(P _ _ _ e1).1;have h2:=(P _ _ _ e2).1;rw[zj] at h2;exact⟨by rw[zA];omega,fun _=>hok⟩
  ·obtain⟨m1,e1,e⟩:=zc e
   obtain⟨ma,ea,e⟩:=zc e;obtain⟨rfl,oka⟩:=zd ea;obtain⟨m2,e2,e⟩:=zc e;obtain⟨mb,eb,e⟩:=zc e;obtain⟨rfl,okb⟩:=zd eb;obtain⟨m3,e3,e⟩:=zc e;obtain⟨rfl,hok⟩:=zd e;have h1:=(P _ _ _ e1).1;have h2:=(P _ _ _ e2).1;have h3:=(P _ _ _ e3).1;rw[zj] at h2;rw[zA,zj] at h3;exact⟨by rw[zA];omega,fun _=>hok⟩
  ·cases e
 rw[if_neg hk3] at e;by_cases hk4:x.k=4
 ·rw[if_pos hk4] at e
  unfold qI at e
  split at e
  ·obtain⟨m0,e0,e⟩:=zc e
   obtain⟨rfl,ok0⟩:=zd e0;obtain⟨m1,e1,e⟩:=zc e;obtain⟨ma,ea,e⟩:=zc e;obtain⟨rfl,oka⟩:=zd ea;obtain⟨m2,e2,e⟩:=zc e;obtain⟨m3,e3,e⟩:=zc e;obtain⟨rfl,ok3⟩:=zd e3;obtain⟨rfl,hok⟩:=zd e;have h1:=(P _ _ _ e1).1;have h2:=(P _ _ _ e2).1;rw[zj] at h2;refine⟨?_,fun _=>hok⟩;show _≤(RG.land _ _).code.length;rw[zA,zj,qf,zA];simp only at h1;omega
  ·cases e
 rw[if_neg hk4] at e;by_cases hk5:x.k=5
 ·rw[if_pos hk5] at e
  obtain⟨rfl,hok⟩:=zd e;exact⟨by show m.code.length≤(m.add 7 0 0).code.length;rw[zj];omega,fun _=>hok⟩
 rw[if_neg hk5] at e;by_cases hk6:x.k=6
 ·rw[if_pos hk6] at e
  obtain⟨rfl,hok⟩:=zd e;exact⟨by show m.code.length≤(m.add 7 0 0).code.length;rw[zj];omega,fun _=>hok⟩
 rw[if_neg hk6] at e;by_cases hk15:x.k=15
 ·rw[if_pos hk15] at e
  obtain⟨rfl,hok⟩:=zd e;exact⟨by rw[qL];omega,fun _=>hok⟩
 rw[if_neg hk15] at e;by_cases hk19:x.k=19
 ·rw[if_pos hk19] at e
  obtain⟨k,ek,e⟩:=zc e;obtain⟨rfl,hok⟩:=zd e;exact⟨by rw[zj];exact Nat.le_succ _,fun _=>hok⟩
 rw[if_neg hk19] at e;by_cases hk11:x.k=11
 ·rw[if_pos hk11] at e
  have:=zT P e;exact⟨this.1,fun _=>this.2⟩
 rw[if_neg hk11] at e;cases e
theorem rN_all (g:Nat) (h:RHd) (sl cl:List Int):∀ f,zM g h sl cl (rN sl cl f)∧NdP (rN sl cl f):=by
 intro f
 induction f with
 | zero=>exact⟨(by intro x d d' e;cases e),(by intro x m m' e;cases e)⟩
 | succ f ih =>
  obtain⟨I,P⟩:=ih;refine⟨?_,fun x m m' e => ?_⟩
  ·intro x d d' e ho w ka kc ca cc ba bc na nc v st hr
   rw[rN] at e
   split at e
   ·cases e
   rename_i hl;obtain⟨k,o,s,n,l⟩:=x;have hl2:l.length≤1000000:=by have:¬ 1000000 < l.length:=hl;omega
   clear hl;unfold rK at e;by_cases hk1:k=1
   ·rw[if_pos hk1] at e
    subst hk1;exact node_let I P e ho hl2 st hr
   rw[if_neg hk1] at e;by_cases hk2:k=2
   ·rw[if_pos hk2] at e
    subst hk2;exact node_set I P e ho hl2 st hr
   rw[if_neg hk2] at e;by_cases hk8:k=8
   ·rw[if_pos hk8] at e
    subst hk8;exact node_print I P e ho hl2 st hr
   rw[if_neg hk8] at e;by_cases hk7:k=7
   ·rw[if_pos hk7] at e
    subst hk7;cases l with
    | nil=>exact node_ret0 I P e ho st hr
    | cons y r=>exact node_ret1 I P e ho hl2 (by simp) st hr
   rw[if_neg hk7] at e;by_cases hk10:k=10
   ·rw[if_pos hk10] at e
    subst hk10;exact node_block I P e ho hl2 st hr
   rw[if_neg hk10] at e;by_cases hk3:k=3
   ·rw[if_pos hk3] at e
    subst hk3
    match l,e,hr with
    | [c,t],e,hr=>exact node_if2 I P e ho st hr
    | [c,t,u],e,hr=>exact node_if3 I P e ho st hr
   rw[if_neg hk3] at e;by_cases hk4:k=4
   ·rw[if_pos hk4] at e
    subst hk4
    match l,e,hr with
    | [c,t],e,hr=>exact node_while I P e ho st hr
   rw[if_neg hk4] at e;by_cases hk5:k=5
   ·rw[if_pos hk5] at e
    subst hk5;exact node_brk e ho st hr
   rw[if_neg hk5] at e;by_cases hk6:k=6
   ·rw[if_pos hk6] at e
    subst hk6;exact node_cnt e ho st hr
   rw[if_neg hk6] at e;by_cases hk15:k=15
   ·rw[if_pos hk15] at e
    subst hk15;exact qg (by decide) st hr (fun W s r=>expr_int I P e ho hl2 s r)
   rw[if_neg hk15] at e;by_cases hk19:k=19
   ·rw[if_pos hk19] at e
    subst hk19;exact qg (by decide) st hr (fun W s r=>expr_var I P e ho hl2 s r)
   rw[if_neg hk19] at e;by_cases hk11:k=11
   ·rw[if_pos hk11] at e
    subst hk11;exact qg (by decide) st hr (fun W s r=>expr_bin I P e ho hl2 s r)
   rw[if_neg hk11] at e;cases e
  ·rw[rN] at e
   split at e
   ·cases e
   ·exact rK_both P x m m' e
end
section
variable {g:Nat} {w w' w2:World}
abbrev zN:=(Option Addr × Nat) × (Option Addr × Nat)
abbrev kfR (f:V.KF) (a:zN):List Value:=[.string f.nm,.int .i64 f.ps,.int .i64 f.lc,.slice a.1.1 f.cs.length a.1.2,.slice a.2.1 f.code.length a.2.2]
def qp:List V.KF→List zN→List Value
 | f :: r,a :: s=>kfR f a++qp r s
 | _,_ => []
theorem kfsR_app:∀ (l:List V.KF) (s:List zN) (f:V.KF) (a:zN),s.length=l.length→qp (l++[f]) (s++[a])=qp l s++kfR f a
 | [],[],f,a,h=>by simp[qp]
 | x :: l,y :: s,f,a,h=>by
  rw[List.cons_append,List.cons_append,qp,qp,kfsR_app l s f a (by simpa using h),List.append_assoc]
 | [],_ :: _,f,a,h=>by simp at h
 | _ :: _,[],f,a,h=>by simp at h
theorem kfsR_at:∀ (l:List V.KF) (s:List zN) (j:Nat) (f:V.KF) (a:zN),l[j]? = some f→s[j]? = some a→∀ r u,(kfR f a)[r]? = some u→(qp l s)[j * 5+r]? = some u
 | [],s,j,f,a,h,_=>by simp at h
 | x :: l,[],j,f,a,_,h=>by simp at h
 | x :: l,y :: s,0,f,a,h1,h2=>by
  obtain rfl:x=f:=by simpa using h1
  obtain rfl:y=a:=by simpa using h2
  intro r u hu;rw[qp,Nat.zero_mul,Nat.zero_add,List.getElem?_append_left (List.getElem?_eq_some_iff.1 hu).1];exact hu
 | x :: l,y :: s,j+1,f,a,h1,h2=>by
  intro r u hu;have ih:=kfsR_at l s j f a (by simpa using h1) (by simpa using h2) r u hu;rw[qp,show (j+1) * 5+r=(kfR x y).length+(j * 5+r) by simp;omega,List.getElem?_append_right (by omega),Nat.add_sub_cancel_left];exact ih
structure PgR (w0 wr:World) (bp:Nat) (xb:Option Nat) (m:Int) (fns:List V.KF) (ads:List zN) (pa:Option Addr) (pc:Nat):Prop where
 ext:Ext w0 wr
 ge:w0.heap.size≤bp
 row:wr.heap[bp]? = some (.cells #[.slice pa fns.length pc,.int .i64 m] 26 (0,0))
 len:ads.length=fns.length
 own:wr.ownsRow (bp+1) 88 5 (.slice pa fns.length pc) fns.length (qp fns ads)
 rep:∀ (i:Nat) (f:V.KF) (a:zN),fns[i]? = some f→ads[i]? = some a→V.RepL wr (fun q=>q < wr.heap.size∧bp < q∧(Value.slice pa fns.length pc).ownBlock≠some q∧xb≠some q) f.cs a.1.1∧V.RepC wr (fun q=>q < wr.heap.size∧bp < q∧(Value.slice pa fns.length pc).ownBlock≠some q∧xb≠some q) a.2.1 f.code
theorem PgR.lt {wr:World} {bp:Nat} {xb:Option Nat} {m:Int} {fns:List V.KF} {ads:List zN} {pa:Option Addr} {pc:Nat} (h:PgR w wr bp xb m fns ads pa pc):bp < wr.heap.size:=(Array.getElem?_eq_some_iff.1 h.row).1
theorem PgR.keep {wr w3:World} {bp:Nat} {xb:Option Nat} {m:Int} {fns:List V.KF} {ads:List zN} {pa:Option Addr} {pc:Nat} (h:PgR w wr bp xb m fns ads pa pc) (he:Ext w w3) (hs:wr.heap.size≤w3.heap.size) (hk:∀ q,q < wr.heap.size→w3.heap[q]? = wr.heap[q]?):PgR w w3 bp xb m fns ads pa pc :=
 ⟨he,h.ge,(hk bp h.lt).trans h.row,h.len,own_keepM h.own (fun q hq=>hk q (h.own.lt q hq).2),fun i f a h1 h2=>by
  obtain⟨r1,r2⟩:=h.rep i f a h1 h2;exact⟨V.RepL.to (fun q hq=>⟨⟨Nat.lt_of_lt_of_le hq.1 hs,hq.2⟩,hk q hq.1⟩) _ _ r1,r2.to (fun q hq=>⟨⟨Nat.lt_of_lt_of_le hq.1 hs,hq.2⟩,hk q hq.1⟩)⟩⟩
theorem PgR.on {wr w3:World} {bp:Nat} {xb:Option Nat} {m:Int} {fns:List V.KF} {ads:List zN} {pa:Option Addr} {pc:Nat} (h:PgR w wr bp xb m fns ads pa pc) (k:Ext wr w3):PgR w w3 bp xb m fns ads pa pc:=h.keep (h.ext.trans k) k.size k.block
theorem PgR.prog {wr:World} {bp:Nat} {xb:Option Nat} {m:Int} {fns:List V.KF} {ads:List zN} {pa:Option Addr} {pc:Nat} (h:PgR w wr bp xb m fns ads pa pc):V.RepP wr (fun q=>q < wr.heap.size∧bp < q) pa fns:=by
 rcases id h.own.2 with⟨e,e0⟩ | ⟨b,cap,cur,e,hb,hg,hn,_⟩
 ·exact Or.inl (List.length_eq_zero_iff.1 e0)
 ·injection e with e1 e2 e3
  subst e1 e3;refine Or.inr ⟨b,0,rfl,⟨(Array.getElem?_eq_some_iff.1 hg).1,by omega⟩,fun j f hf => ?_⟩;have hlt:=(List.getElem?_eq_some_iff.1 hf).1;obtain⟨a,ha⟩:∃ a,ads[j]? = some a:=⟨_,List.getElem?_eq_getElem (by rw[h.len];exact hlt)⟩;have hc:=kfsR_at fns ads j f a hf ha;have e:∀ n,(⟨b,0,none⟩:Addr).add n=⟨b,n,none⟩:=fun n=>by cases n <;> simp[Addr.add]
  have k0:=h.own.cells (g:=b) rfl _ _ (hc 0 _ rfl);have k1:=h.own.cells (g:=b) rfl _ _ (hc 1 _ rfl);have k2:=h.own.cells (g:=b) rfl _ _ (hc 2 _ rfl);have k3:=h.own.cells (g:=b) rfl _ _ (hc 3 _ rfl);have k4:=h.own.cells (g:=b) rfl _ _ (hc 4 _ rfl);rw[e] at k0 k1 k2 k3 k4;obtain⟨r1,r2⟩:=h.rep j f a hf ha;refine⟨a.1.1,a.1.2,a.2.1,a.2.2,?_⟩;rw[Nat.zero_add];exact⟨k0,k1,k2,k3,k4,V.RepL.to (fun q hq=>⟨⟨hq.1,hq.2.1⟩,rfl⟩) _ _ r1,r2.to (fun q hq=>⟨⟨hq.1,hq.2.1⟩,rfl⟩)⟩
theorem PgR.add {wr W w3:World} {bp:Nat} {xb:Option Nat} {m:Int} {fns:List V.KF} {ads:List zN} {pa:Option Addr} {pc g' cap':Nat} {ob:Obj} (hxb:∀ q,xb=some q→q < wr.heap.size) (h:PgR w wr bp xb m fns ads pa pc) (x:PgR w W bp xb m fns ads pa pc) (hsz:wr.heap.size≤W.heap.size) (f:V.KF) (a:zN)
  (hr:V.RepL W (fun q=>wr.heap.size≤q∧q < W.heap.size) f.cs a.1.1∧V.RepC W (fun q=>wr.heap.size≤q∧q < W.heap.size) a.2.1 f.code)
  (g1:(W.alloc ob).grownBy w3 (Value.slice pa fns.length pc).ownBlock)
  (ho:w3.ownsRow (bp+1) 88 5 (.slice (some ⟨g',0,none⟩) (fns.length+1) cap') (fns.length+1) (qp fns ads++kfR f a))
  (hw:(Value.slice pa fns.length pc).ownBlock=some g'∨W.heap.size+1≤g') :
  PgR w (w3.setCell ⟨bp,0,none⟩ (.slice (some ⟨g',0,none⟩) (fns.length+1) cap')) bp xb m (fns++[f]) (ads++[a]) (some ⟨g',0,none⟩) cap':=by
 have hbl:=h.lt;have hs1:(W.alloc ob).heap.size=W.heap.size+1:=by simp
 have hs3:=g1.size;have ownlt:∀ q,(Value.slice pa fns.length pc).ownBlock=some q→bp+1≤q∧q < wr.heap.size:=fun q e=>h.own.lt q e;have kp:∀ q,q < W.heap.size→(Value.slice pa fns.length pc).ownBlock≠some q→w3.heap[q]? = W.heap[q]?:=fun q hq hne=>(g1.block q (by omega) (fun e=>hne e.symm)).trans ((Ext.alloc W ob).block q hq);have hbp3:w3.heap[bp]? = some (.cells #[.slice pa fns.length pc,.int .i64 m] 26 (0,0)):=(kp bp (by omega) (fun e=>by have:=(ownlt bp e).1;omega)).trans x.row;have hbg:bp+1≤g':=(ho.lt g' rfl).1;have hl:(fns++[f]).length=fns.length+1:=by simp
 have e3:Ext w w3:=by
  refine Below.grown (x.ext.trans (Ext.alloc W ob)) g1 (x.ext.trans (Ext.alloc W ob)).size (fun j hj => ?_);have:=(ownlt j hj).1;have:=h.ge;omega
 have ks:∀ q,q≠bp→(w3.setCell ⟨bp,0,none⟩ (.slice (some ⟨g',0,none⟩) (fns.length+1) cap')).heap[q]? = w3.heap[q]?:=fun q hq=>Below.heap_setCell _ _ _ _ hq;have sz:(w3.setCell ⟨bp,0,none⟩ (.slice (some ⟨g',0,none⟩) (fns.length+1) cap')).heap.size=w3.heap.size:=by simp[World.setCell]
 refine⟨e3.set (p:=⟨bp,0,none⟩) h.ge _,h.ge,?_,by simp[h.len],?_,fun i f2 a2 h1 h2 => ?_⟩
 ·have:=row_set hbp3 0 (.slice (some ⟨g',0,none⟩) (fns.length+1) cap')
  rw[hl];exact this
 ·rw[kfsR_app _ _ _ _ h.len,hl]
  exact ownsRow_setCell_below ho (Nat.lt_succ_self bp) _
 ·rw[hl]
  have go:∀ (q:Nat),q < W.heap.size→bp < q→(Value.slice pa fns.length pc).ownBlock≠some q→xb≠some q→(q < (w3.setCell ⟨bp,0,none⟩ (.slice (some ⟨g',0,none⟩) (fns.length+1) cap')).heap.size∧bp < q∧(Value.slice (some (⟨g',0,none⟩:Addr)) (fns.length+1) cap').ownBlock≠some q∧xb≠some q)∧(w3.setCell ⟨bp,0,none⟩ (.slice (some ⟨g',0,none⟩) (fns.length+1) cap')).heap[q]? = W.heap[q]?:=fun q hq hne hnq hnx=>by
   refine⟨⟨by rw[sz];omega,hne,fun e => ?_,hnx⟩,(ks q (by omega)).trans (kp q hq hnq)⟩;simp only[Value.ownBlock,Option.some.injEq] at e;subst e;rcases hw with e | e
   ·exact hnq e
   ·omega
  by_cases hi:i < fns.length
  ·rw[List.getElem?_append_left hi] at h1
   rw[List.getElem?_append_left (by rw[h.len];exact hi)] at h2;obtain⟨r1,r2⟩:=x.rep i f2 a2 h1 h2;exact⟨V.RepL.to (fun q hq=>go q hq.1 hq.2.1 hq.2.2.1 hq.2.2.2) _ _ r1,r2.to (fun q hq=>go q hq.1 hq.2.1 hq.2.2.1 hq.2.2.2)⟩
  ·have h1':=(List.getElem?_eq_some_iff.1 h1).1
   rw[hl] at h1';obtain rfl:i=fns.length:=by omega
   rw[List.getElem?_append_right (by omega),Nat.sub_self] at h1;rw[List.getElem?_append_right (by rw[h.len];omega),h.len,Nat.sub_self] at h2;injection h1 with h1;injection h2 with h2;subst h1 h2;have go2:∀ q,wr.heap.size≤q∧q < W.heap.size→(q < (w3.setCell ⟨bp,0,none⟩ (.slice (some ⟨g',0,none⟩) (fns.length+1) cap')).heap.size∧bp < q∧(Value.slice (some (⟨g',0,none⟩:Addr)) (fns.length+1) cap').ownBlock≠some q∧xb≠some q)∧(w3.setCell ⟨bp,0,none⟩ (.slice (some ⟨g',0,none⟩) (fns.length+1) cap')).heap[q]? = W.heap[q]?:=fun q hq=>go q hq.2 (by omega) (fun e=>by have:=(ownlt q e).2;omega) (fun e=>by have:=hxb q e;omega);exact⟨V.RepL.to go2 _ _ hr.1,hr.2.to go2⟩
theorem PgR.grow {wr w3:World} {bp:Nat} {xb:Option Nat} {m:Int} {fns:List V.KF} {ads:List zN} {pa:Option Addr} {pc g':Nat} (h:PgR w wr bp xb m fns ads pa pc) (g1:wr.grownBy w3 xb) (hw:xb=some g'∨wr.heap.size≤g') (hb:∀ q,xb=some q→bp+1≤q) (ho:(Value.slice pa fns.length pc).ownBlock=none∨(Value.slice pa fns.length pc).ownBlock≠xb):PgR w w3 bp (some g') m fns ads pa pc:=by
 have hl:=h.lt;have k:∀ q,q < wr.heap.size→xb≠some q→w3.heap[q]? = wr.heap[q]?:=fun q hq hn=>g1.block q hq (fun e=>hn e.symm);have go:∀ q,q < wr.heap.size∧bp < q∧(Value.slice pa fns.length pc).ownBlock≠some q∧xb≠some q→(q < w3.heap.size∧bp < q∧(Value.slice pa fns.length pc).ownBlock≠some q∧some g'≠some q)∧w3.heap[q]? = wr.heap[q]?:=fun q hq=>by
  refine⟨⟨Nat.lt_of_lt_of_le hq.1 g1.size,hq.2.1,hq.2.2.1,fun e => ?_⟩,k q hq.1 hq.2.2.2⟩;rcases hw with hw | hw
  ·exact hq.2.2.2 (hw.trans e)
  ·injection e with e
   omega
 refine⟨Below.grown h.ext g1 h.ext.size (fun j hj => ?_),h.ge,(k bp hl (fun e=>by have:=hb bp e;omega)).trans h.row,h.len,h.own.kept g1 ho,fun i f a h1 h2 => ?_⟩
 ·have:=hb j hj
  have:=h.ge;omega
 ·obtain⟨r1,r2⟩:=h.rep i f a h1 h2
  exact⟨V.RepL.to go _ _ r1,r2.to go⟩
theorem PgR.setM {wr:World} {bp:Nat} {xb:Option Nat} {m m':Int} {fns:List V.KF} {ads:List zN} {pa:Option Addr} {pc:Nat} (h:PgR w wr bp xb m fns ads pa pc):PgR w (wr.setCell ⟨bp,1,none⟩ (.int .i64 m')) bp xb m' fns ads pa pc:=by
 have hs:(wr.setCell ⟨bp,1,none⟩ (.int .i64 m')).heap.size=wr.heap.size:=by simp[World.setCell]
 refine⟨h.ext.set (p:=⟨bp,1,none⟩) h.ge _,h.ge,row_set h.row 1 _,h.len,ownsRow_setCell_below h.own (Nat.lt_succ_self bp) _,fun i f a h1 h2 => ?_⟩;obtain⟨r1,r2⟩:=h.rep i f a h1 h2;have go:∀ q,q < wr.heap.size∧bp < q∧(Value.slice pa fns.length pc).ownBlock≠some q∧xb≠some q→(q < (wr.setCell ⟨bp,1,none⟩ (.int .i64 m')).heap.size∧bp < q∧(Value.slice pa fns.length pc).ownBlock≠some q∧xb≠some q)∧(wr.setCell ⟨bp,1,none⟩ (.int .i64 m')).heap[q]? = wr.heap[q]?:=fun q hq=>⟨⟨by rw[hs];exact hq.1,hq.2⟩,Below.heap_setCell _ _ _ _ (by show q≠bp;omega)⟩;exact⟨V.RepL.to go _ _ r1,r2.to go⟩
theorem RF.toExt {ba na:Option Addr} {W W5:World} (h:RF g ba na W W5) (x:Ext w W) (hg:w.heap.size≤g):Ext w W5 :=
 { os:=h.os.trans x.os,tape:=h.tape.trans x.tape,output:=h.output.trans x.output,size:=Nat.le_trans x.size h.size,block:=fun k hk=>(h.low k (by omega)).trans (x.block k hk) }
theorem gcR_repF (v:Option Int) (hv:gcB v=true) (W:World) (F:Nat→Prop):V.Rep W F (gcP v) (.agg #[.int .i64 (gcK v),.int .i64 (gcN v),.complex .f64 0 0,.string ⟨#[]⟩,.slice none 0 0]):=by
 cases v with
 | none =>
  unfold gcP;rw[V.Rep];exact⟨none,0,rfl,by constructor <;> decide,by simp[V.RepL]⟩
 | some n =>
  unfold gcB at hv;have h:=of_decide_eq_true hv;unfold gcP;rw[V.Rep];exact⟨none,0,rfl,by constructor <;> first | decide | exact h.1 | exact h.2,by simp[V.RepL]⟩
theorem repLR_of {F:Nat→Prop} {b:Nat} (hF:F b):∀ (l:List (Option Int)) (off:Nat),(∀ v ∈ l,gcB v=true)→(∀ (i:Nat) (u:Value),(l.flatMap gcC)[i]? = some u→w.cell? ⟨b,off+i,none⟩=some u)→V.RepL w F (l.map gcP) (some ⟨b,off,none⟩)
 | [],off,_,_=>by simp[V.RepL]
 | v :: l,off,hv,hc=>by
  rw[List.map_cons,V.RepL];have c0:=hc 0 (.int .i64 (gcK v)) rfl;have c1:=hc 1 (.int .i64 (gcN v)) rfl;have c2:=hc 2 (.complex .f64 0 0) rfl;have c3:=hc 3 (.string ⟨#[]⟩) rfl;have c4:=hc 4 (.slice none 0 0) rfl;refine⟨b,off,_,_,_,_,_,rfl,hF,gcR_repF v (hv v (by simp)) w F,by simpa using c0,c1,c2,c3,c4,repLR_of hF l (off+5) (fun u hu=>hv u (by simp[hu])) (fun i u hu => ?_)⟩;have:=hc (5+i) u (by rw[List.flatMap_cons,List.getElem?_append_right (by simp)];simpa using hu);rw[show off+5+i=off+(5+i) by omega];exact this
theorem RS.rows {hd:RHd} {sl cl:List Int} {d:RG} {ka ca ba na:Option Addr} {kc cc bc nc:Nat} (h:RS g w hd sl cl d ka kc ca cc ba bc na nc) (hb:d.cs.all gcB=true):V.RepL w (fun q=>g≤q∧q < w.heap.size) (d.cs.map gcP) ca∧V.RepC w (fun q=>g≤q∧q < w.heap.size) ka d.code:=by
 have e:∀ b n,(⟨b,0,none⟩:Addr).add n=⟨b,n,none⟩:=fun b n=>by cases n <;> simp[Addr.add]
 constructor
 ·rcases id h.oc.2 with⟨e1,e0⟩ | ⟨b,cap,cur,e1,hbb,hg,hn,_⟩
  ·rw[List.length_eq_zero_iff.1 e0]
   simp[V.RepL]
  ·injection e1 with e1 e2 e3
   subst e1 e3;refine repLR_of ⟨by omega,(Array.getElem?_eq_some_iff.1 hg).1⟩ d.cs 0 (fun v hv=>List.all_eq_true.1 hb v hv) (fun i u hu => ?_);have:=h.oc.cells (g:=b) rfl _ _ hu;rw[e] at this;rw[Nat.zero_add];exact this
 ·rcases id h.ok.2 with⟨e1,e0⟩ | ⟨b,cap,cur,e1,hbb,hg,hn,_⟩
  ·exact Or.inl (List.length_eq_zero_iff.1 e0)
  ·injection e1 with e1 e2 e3
   subst e1 e3;refine Or.inr ⟨b,0,rfl,⟨by omega,(Array.getElem?_eq_some_iff.1 hg).1⟩,fun j i hi => ?_⟩;obtain⟨k0,k1,k2⟩:=kiC_at d.code j i hi;have k0:=h.ok.cells (g:=b) rfl _ _ k0;have k1:=h.ok.cells (g:=b) rfl _ _ k1;have k2:=h.ok.cells (g:=b) rfl _ _ k2;rw[e] at k0 k1 k2;rw[Nat.zero_add];exact⟨k0,k1,k2⟩
end
section
variable {g:Nat} {w w' w2:World}
def qw (f:Nat) (p:PFn) (s:PSc) (tk:Int):Option RG:=rB (rN s.sl s.cl f p.bd ⟨[],[],0,0,tk,[],[]⟩) fun m=>rG ((m.cst none).add 10 0 0)
def rKF (p:PFn) (s:PSc) (m:RG):V.KF:=⟨p.nm,(p.ps.length:Int),s.lc,m.cs.map gcP,m.code⟩
def qq (f:Nat):List PFn→List PSc→Int→List V.KF→Option (List V.KF)
 | [],_,_,acc=>some acc
 | p :: r,s :: q,tk,acc=>match qw f p s tk with
  | none=>none
  | some m=>if m.code.length≤1000∧m.tk≤4095 then qq f r q m.tk (acc++[rKF p s m]) else none
 | _ :: _,[],_,_=>none
def isMain (p:PFn):Bool:=p.nm.toList == [109,97,105,110]
def zH:List PFn→Nat→Int→Int
 | [],_,m=>m
 | p :: r,i,m=>zH r (i+1) (if isMain p then (i:Int) else m)
abbrev prR (pa:Option Addr) (n pc:Nat) (m:Int):Obj:=.cells #[.slice pa n pc,.int .i64 m] 26 (0,0)
theorem RS.init {W:World} {h:RHd} {sl cl:List Int} {tk:Int} (hr:W.heap[g]? = some (rgO h sl.length cl.length (.slice none 0 0) (.slice none 0 0) 0 0 tk (.slice none 0 0) (.slice none 0 0))) (h1:RepO W (fun b=>b < g) sl h.sa) (h2:RepO W (fun b=>b < g) cl h.la):RS g W h sl cl ⟨[],[],0,0,tk,[],[]⟩ none 0 none 0 none 0 none 0 :=
 ⟨hr,World.ownsRow_nil _ _ _ _,World.ownsRow_nil _ _ _ _,World.ownsRow_nil _ _ _ _,World.ownsRow_nil _ _ _ _,Or.inl rfl,h1,h2⟩
theorem rowSc_atR {F:Nat→Prop}:∀ {ps:List PSc} {xs:List Value},RowSc w F ps xs→∀ (i:Nat) (p:PSc),ps[i]? = some p→∃ sa sc ca cc,xs[i * 3]? = some (.int .i64 p.lc)∧xs[i * 3+1]? = some (.slice sa p.sl.length sc)∧xs[i * 3+2]? = some (.slice ca p.cl.length cc)∧RepI w F sa p.sl∧RepI w F ca p.cl:=by
 intro ps
 induction ps with
 | nil=>intro xs _ i p h;simp at h
 | cons q ps ih =>
  intro xs hx i p hp;obtain⟨sa,sc,ca,cc,rest,rfl,h1,h2,h3,h4,hr⟩:=hx;cases i with
  | zero =>
   simp at hp;subst hp;exact⟨sa,sc,ca,cc,rfl,rfl,rfl,h2,h4⟩
  | succ j =>
   simp at hp;obtain⟨sa',sc',ca',cc',r0,r1,r2,r3,r4⟩:=ih hr j p hp;refine⟨sa',sc',ca',cc',?_,?_,?_,r3,r4⟩
   ·rw[show (j+1) * 3=3+j * 3 by omega,List.getElem?_append_right (by simp)];simpa using r0
   ·rw[show (j+1) * 3+1=3+(j * 3+1) by omega,List.getElem?_append_right (by simp)];simpa using r1
   ·rw[show (j+1) * 3+2=3+(j * 3+2) by omega,List.getElem?_append_right (by simp)];simpa using r2
theorem scAtR {F:Nat→Prop} {ps:List PSc} {a:Option Addr} {G:Nat} {W:World} (h:RepSc w F ps a) (hF:∀ b,F b→b < G) (i:Nat) (p:PSc) (hp:ps[i]? = some p) (hk:∀ b,b < G→W.heap[b]? = w.heap[b]?):∃ b sa sc ca cc,a=some ⟨b,0,none⟩∧W.cell? ⟨b,i * 3,none⟩=some (.int .i64 p.lc)∧W.cell? ⟨b,i * 3+1,none⟩=some (.slice sa p.sl.length sc)∧W.cell? ⟨b,i * 3+2,none⟩=some (.slice ca p.cl.length cc)∧b < G∧RepO W (fun b=>b < G) p.sl sa∧RepO W (fun b=>b < G) p.cl ca:=by
 rcases h with rfl | ⟨b,xs,rfl,hb,hrow,hc⟩
 ·simp at hp
 ·obtain⟨sa,sc,ca,cc,h1,h2,h3,h4,h5⟩:=rowSc_atR hrow i p hp
  have e:∀ o,W.cell? ⟨b,o,none⟩=w.cell? ⟨b,o,none⟩:=fun o=>World.cell?_of_block (w:=w) (hk b (hF b hb));have ri:∀ {l:List Int} {a:Option Addr},RepI w F a l→RepO W (fun b=>b < G) l a:=fun h=>by
   rcases h with h | ⟨b2,rfl,hb2,hc2⟩
   ·exact Or.inl h
   ·refine Or.inr ⟨b2,0,rfl,hF b2 hb2,fun j x hx => ?_⟩
    rw[Nat.zero_add,World.cell?_of_block (w:=w) (hk b2 (hF b2 hb2))];exact hc2 j x hx
  exact⟨b,sa,sc,ca,cc,rfl,by rw[e];exact hc _ _ h1,by rw[e];exact hc _ _ h2,by rw[e];exact hc _ _ h3,hF b hb,ri h4,ri h5⟩
end
end Go.Proofs.YtdnclahaejlehaaGreat
