/- The document's maker: statements that hold no others,and rows of them. -/
import Derived.Test.YtjnpehohialmbaaGreatZs44
import Derived.Test.YtjnpehohialmbaaGreatZs23
set_option linter.unusedSimpArgs false
set_option linter.unusedVariables false
set_option maxRecDepth 10000
set_option maxHeartbeats 2000000
namespace Go.Proofs.YtjnpehohialmbaaGreat
open Go.RowKit
section
variable {g:Nat} {w w0 w1 w' w2:World} {h:RHd} {sl cl:List Int} {d d':RG} {ka ca ba na:Option Addr} {kc cc bc nc:Nat} {nd:PN→RG→Option RG}
theorem node_let (I:NdOk g h sl cl nd) (P:NdP nd) {o n:Int} {s:ByteArray} {l:List PN} {v:Value} (e:rLet nd sl l d=some d') (ho:d.ok=true) (hl:l.length≤1000000) (st:RS g w h sl cl d ka kc ca cc ba bc na nc) (hr:RepN w (fun b=>b < g) ⟨1,o,s,n,l⟩ v):Calls Tryz.prog 16 #[.pointer (some ⟨g,0,none⟩),v] w (RDone g w h sl cl d' ba na):=by
 rw[RepN] at hr;obtain⟨a,cap,rfl,hcap,hrl⟩:=hr;obtain⟨A0,BX,F0⟩:=st.box 1 o s n (.slice a l.length cap);have hrb:RepNL (w.alloc (nodO 1 o s n (.slice a l.length cap))) (fun b=>b < g) l a:=RepNL.to (fun b hb=>⟨hb,F0.low b hb⟩) _ a hrl;obtain⟨m1,e1,e⟩:=rB_some e;obtain⟨k,ek,e⟩:=rB_some e;obtain⟨e,hok⟩:=rG_some e;subst e;have o1:=rok_parts ((rAll_both P l d m1 e1).2 ho);have H0:=zh (fun (W:World) (x:RGAns g (w.alloc (nodO 1 o s n (.slice a l.length cap))) h sl cl d ba na W)=>rall_m I P l e1 ho hl a cap x hrb);have H1:=zh (fun (W:World) (x:RGAns g (w.alloc (nodO 1 o s n (.slice a l.length cap))) h sl cl m1 ba na W)=>rslot_k x (by omega) k ek)
 have H2:=zh (fun (W:World) (x:RGAns g (w.alloc (nodO 1 o s n (.slice a l.length cap))) h sl cl ({ m1 with sp:=m1.sp+1 }:RG) ba na W)=>radd_k x (by show m1.code.length≤90000;omega) 3 k 0);have R0:=zh A0;have HB:=zh BX;have HF:=zh F0;obtain⟨b0,b1,b2,b3,b4⟩:=BX.c A0;clear A0 BX F0 hrb hrl st I P e e1 ek o1 hok ho
 go_enter Tryz.func16,Tryz.ntmps16
 go_wp2_with (first
  | (have G:=zu R0;clear G;go_at_call 40;refine Calls.mono (zu H0 _ (zu R0)) ?_;rintro e w1 ⟨rfl,hr⟩;have R1:=zh hr;clear hr R0;clear b0 b1 b2 b3 b4;obtain⟨b0,b1,b2,b3,b4⟩:=(zu HB).c (zu R1))
  | (have G:=zu R1;clear G;go_at_call 41;refine Calls.mono (zu H1 _ (zu R1)) ?_;rintro e w2 ⟨rfl,hr⟩;have R2:=zh hr;clear hr R1;clear b0 b1 b2 b3 b4;obtain⟨b0,b1,b2,b3,b4⟩:=(zu HB).c (zu R2))
  | (have G:=zu R2;clear G;go_at_call 18;refine Calls.mono (zu H2 _ (zu R2)) ?_;rintro e w3 ⟨rfl,hr⟩;have R3:=zh hr;clear hr R2;clear b0 b1 b2 b3 b4;obtain⟨b0,b1,b2,b3,b4⟩:=(zu HB).c (zu R3)))
 go_end0
 exact⟨rfl,RGAns.on (zu HF) (zu R3)⟩
theorem node_print (I:NdOk g h sl cl nd) (P:NdP nd) {o n:Int} {s:ByteArray} {l:List PN} {v:Value} (e:rThen nd 11 0 l d=some d') (ho:d.ok=true) (hl:l.length≤1000000) (st:RS g w h sl cl d ka kc ca cc ba bc na nc) (hr:RepN w (fun b=>b < g) ⟨8,o,s,n,l⟩ v):Calls Tryz.prog 16 #[.pointer (some ⟨g,0,none⟩),v] w (RDone g w h sl cl d' ba na):=by
 rw[RepN] at hr;obtain⟨a,cap,rfl,hcap,hrl⟩:=hr;obtain⟨A0,BX,F0⟩:=st.box 8 o s n (.slice a l.length cap);have hrb:RepNL (w.alloc (nodO 8 o s n (.slice a l.length cap))) (fun b=>b < g) l a:=RepNL.to (fun b hb=>⟨hb,F0.low b hb⟩) _ a hrl;obtain⟨m1,e1,e⟩:=rB_some e;obtain⟨e,hok⟩:=rG_some e;subst e;have o1:=rok_parts ((rAll_both P l d m1 e1).2 ho);have H0:=zh (fun (W:World) (x:RGAns g (w.alloc (nodO 8 o s n (.slice a l.length cap))) h sl cl d ba na W)=>rall_m I P l e1 ho hl a cap x hrb);have H1:=zh (fun (W:World) (x:RGAns g (w.alloc (nodO 8 o s n (.slice a l.length cap))) h sl cl m1 ba na W)=>radd_k x (by omega) 11 0 0);have R0:=zh A0;have HB:=zh BX;have HF:=zh F0;obtain⟨b0,b1,b2,b3,b4⟩:=BX.c A0;clear A0 BX F0 hrb hrl st I P e e1 o1 hok ho
 go_enter Tryz.func16,Tryz.ntmps16
 go_wp2_with (first
  | (have G:=zu R0;clear G;go_at_call 40;refine Calls.mono (zu H0 _ (zu R0)) ?_;rintro e w1 ⟨rfl,hr⟩;have R1:=zh hr;clear hr R0;clear b0 b1 b2 b3 b4;obtain⟨b0,b1,b2,b3,b4⟩:=(zu HB).c (zu R1))
  | (have G:=zu R1;clear G;go_at_call 18;refine Calls.mono (zu H1 _ (zu R1)) ?_;rintro e w2 ⟨rfl,hr⟩;have R2:=zh hr;clear hr R1;clear b0 b1 b2 b3 b4;obtain⟨b0,b1,b2,b3,b4⟩:=(zu HB).c (zu R2)))
 go_end0
 exact⟨rfl,RGAns.on (zu HF) (zu R2)⟩
theorem node_block (I:NdOk g h sl cl nd) (P:NdP nd) {o n:Int} {s:ByteArray} {l:List PN} {v:Value} (e:rAll nd l d=some d') (ho:d.ok=true) (hl:l.length≤1000000) (st:RS g w h sl cl d ka kc ca cc ba bc na nc) (hr:RepN w (fun b=>b < g) ⟨10,o,s,n,l⟩ v):Calls Tryz.prog 16 #[.pointer (some ⟨g,0,none⟩),v] w (RDone g w h sl cl d' ba na):=by
 rw[RepN] at hr;obtain⟨a,cap,rfl,hcap,hrl⟩:=hr;obtain⟨A0,BX,F0⟩:=st.box 10 o s n (.slice a l.length cap);have hrb:RepNL (w.alloc (nodO 10 o s n (.slice a l.length cap))) (fun b=>b < g) l a:=RepNL.to (fun b hb=>⟨hb,F0.low b hb⟩) _ a hrl;have H0:=zh (fun (W:World) (x:RGAns g (w.alloc (nodO 10 o s n (.slice a l.length cap))) h sl cl d ba na W)=>rall_m I P l e ho hl a cap x hrb);have R0:=zh A0;have HB:=zh BX;have HF:=zh F0;obtain⟨b0,b1,b2,b3,b4⟩:=BX.c A0;clear A0 BX F0 hrb hrl st I P e ho
 go_enter Tryz.func16,Tryz.ntmps16
 go_wp2_with (first
  | (have G:=zu R0;clear G;go_at_call 40;refine Calls.mono (zu H0 _ (zu R0)) ?_;rintro e w1 ⟨rfl,hr⟩;have R1:=zh hr;clear hr R0;clear b0 b1 b2 b3 b4;obtain⟨b0,b1,b2,b3,b4⟩:=(zu HB).c (zu R1)))
 go_end0
 exact⟨rfl,RGAns.on (zu HF) (zu R1)⟩
theorem node_ret1 (I:NdOk g h sl cl nd) (P:NdP nd) {o n:Int} {s:ByteArray} {l:List PN} {v:Value} (e:rRet nd l d=some d') (ho:d.ok=true) (hl:l.length≤1000000) (hne:l≠[]) (st:RS g w h sl cl d ka kc ca cc ba bc na nc) (hr:RepN w (fun b=>b < g) ⟨7,o,s,n,l⟩ v):Calls Tryz.prog 16 #[.pointer (some ⟨g,0,none⟩),v] w (RDone g w h sl cl d' ba na):=by
 rw[RepN] at hr;obtain⟨a,cap,rfl,hcap,hrl⟩:=hr;obtain⟨A0,BX,F0⟩:=st.box 7 o s n (.slice a l.length cap);have hrb:RepNL (w.alloc (nodO 7 o s n (.slice a l.length cap))) (fun b=>b < g) l a:=RepNL.to (fun b hb=>⟨hb,F0.low b hb⟩) _ a hrl;have hz:((l.length:Int) == 0)=false:=by
  have:l.length≠0:=fun h=>hne (List.eq_nil_of_length_eq_zero h);simp[hne]
 obtain⟨m0,e0,e⟩:=rB_some e;rw[if_neg hne] at e0;obtain⟨e0,ok0⟩:=rG_some e0;subst e0;obtain⟨m1,e1,e⟩:=rB_some e;obtain⟨e,hok⟩:=rG_some e;subst e;have o1:=rok_parts ((rAll_both P l d m1 e1).2 ho);have H0:=zh (fun (W:World) (x:RGAns g (w.alloc (nodO 7 o s n (.slice a l.length cap))) h sl cl d ba na W)=>rall_m I P l e1 ho hl a cap x hrb);have H1:=zh (fun (W:World) (x:RGAns g (w.alloc (nodO 7 o s n (.slice a l.length cap))) h sl cl m1 ba na W)=>radd_k x (by omega) 10 0 0);have R0:=zh A0;have HB:=zh BX;have HF:=zh F0;obtain⟨b0,b1,b2,b3,b4⟩:=BX.c A0;clear A0 BX F0 hrb hrl st I P e e1 o1 hok ho ok0 hne
 go_enter Tryz.func16,Tryz.ntmps16
 go_wp2_with (first
  | (have G:=zu R0;clear G;go_at_call 40;refine Calls.mono (zu H0 _ (zu R0)) ?_;rintro e w1 ⟨rfl,hr⟩;have R1:=zh hr;clear hr R0;clear b0 b1 b2 b3 b4;obtain⟨b0,b1,b2,b3,b4⟩:=(zu HB).c (zu R1))
  | (have G:=zu R1;clear G;go_at_call 18;refine Calls.mono (zu H1 _ (zu R1)) ?_;rintro e w2 ⟨rfl,hr⟩;have R2:=zh hr;clear hr R1;clear b0 b1 b2 b3 b4;obtain⟨b0,b1,b2,b3,b4⟩:=(zu HB).c (zu R2)))
 go_end0
 exact⟨rfl,RGAns.on (zu HF) (zu R2)⟩
end
section
variable {g:Nat} {w w0 w1 w' w2:World} {h:RHd} {sl cl:List Int} {d d':RG} {ka ca ba na:Option Addr} {kc cc bc nc:Nat} {nd:PN→RG→Option RG}
theorem num1 (W:World) (j:Nat):NumAt (W.alloc (.cells #[.int .i64 (j:Int)] 3 (0,0))) [j] (some ⟨W.heap.size,0,none⟩):=by
 refine Or.inr ⟨W.heap.size,_,_,rfl,Go.heap_alloc_new W _,fun i x hx => ?_⟩;cases i with
 | zero=>simp at hx;subst hx;rfl
 | succ i=>simp at hx
theorem land1 (x:RGAns g w0 h sl cl d ba na w) (hb:d.code.length≤90000) (j:Nat) (hj:j < d.code.length):Calls Tryz.prog 42 #[.pointer (some ⟨g,0,none⟩),.slice (some ⟨w.heap.size,0,none⟩) 1 1] (w.alloc (.cells #[.int .i64 (j:Int)] 3 (0,0))) (RDone g w0 h sl cl (d.land [j]) ba na) :=
 rland_k (x.ext (Ext.alloc w _)) hb [j] _ 1 (fun i hi=>by simp at hi;omega) (num1 w j) (by simp)
end
section
variable {g:Nat} {w w0 w1 w' w2:World} {h:RHd} {sl cl:List Int} {d d':RG} {ka ca ba na:Option Addr} {kc cc bc nc:Nat} {nd:PN→RG→Option RG}
theorem rint_k (n:Int) (W:World):Calls Tryz.prog 69 #[.int .i64 n] W fun e w'=>e = .returned (V.rcV (some (.inl n)))∧Ext W w':=by
 go_enter Tryz.func69,Tryz.ntmps69
 go_wp2_with fail
 first
  | (go_ret;exact⟨rfl,Ext.refl _⟩)
  | exact bodyPost_ret (v:=V.rcV (some (.inl n))) (by simp[results,Tryz.results69,go_sem]) rfl ⟨rfl,Ext.alloc _ _⟩
theorem rcx2_k (W:World):Calls Tryz.prog 72 #[.complex .f64 0 4611686018427387904] W fun e w'=>e = .returned (V.rcV (some (.inr true)))∧Ext W w':=by
 go_enter Tryz.func72,Tryz.ntmps72
 go_wp2_with fail
 first
  | (go_ret;exact⟨rfl,Ext.refl _⟩)
  | exact bodyPost_ret (v:=V.rcV (some (.inr true))) (by simp[results,Tryz.results72,go_sem]) rfl ⟨rfl,Ext.alloc _ _⟩
theorem rtxt0_k (W:World):Calls Tryz.prog 73 #[.string ⟨#[]⟩] W fun e w'=>e = .returned (V.rcV (some (.inr false)))∧Ext W w':=by
 go_enter Tryz.func73,Tryz.ntmps73
 go_wp2_with fail
 first
  | (go_ret;exact⟨rfl,Ext.refl _⟩)
  | exact bodyPost_ret (v:=V.rcV (some (.inr false))) (by simp[results,Tryz.results73,go_sem]) rfl ⟨rfl,Ext.alloc _ _⟩
theorem rof2_k (W:World):Calls Tryz.prog 71 #[.int .i64 0,.int .i64 2] W fun e w'=>e = .returned (.complex .f64 0 4611686018427387904)∧w' = W:=by
 have h1:floatOfInt .f64 0=0:=by kernel_rfl
 have h2:floatOfInt .f64 2=4611686018427387904:=by kernel_rfl
 go_enter Tryz.func71,Tryz.ntmps71
 go_wp2_with fail
 go_ret
 first
  | exact⟨rfl,rfl⟩
  | exact⟨by rw[h1,h2],rfl⟩
theorem rclean2_k (W:World):Calls Tryz.prog 70 #[.complex .f64 0 4611686018427387904] W fun e w'=>e = .returned (.tuple #[.complex .f64 0 4611686018427387904,.int .i64 0])∧w' = W:=by
 have h:=V.rclean_any 0 4611686018427387904 W;have h1:V.cl1 0 4611686018427387904=0:=by kernel_rfl
 have h2:V.cl2 0 4611686018427387904=4611686018427387904:=by kernel_rfl
 have h3:V.clE 0 4611686018427387904=0:=by kernel_rfl
 rw[h1,h2,h3] at h;exact h
theorem NumAt.rf {l:List Nat} {la:Option Addr} (x:NumAt w l la) (f:RF g ba na w w') (hn:∀ b,V.obk la=some b→b≠g∧V.obk ba≠some b∧V.obk na≠some b):NumAt w' l la:=by
 rcases x with x | ⟨b,cs,fr,e,hr,hc⟩
 ·exact Or.inl x
 ·obtain⟨h1,h2,h3⟩:=hn b (by rw[e];rfl)
  exact Or.inr ⟨b,cs,fr,e,f.typ b cs _ fr hr h1 (by decide) (by decide) h2 h3,hc⟩
theorem num2 (W:World) (i j:Nat):NumAt (W.alloc (.cells #[.int .i64 (i:Int),.int .i64 (j:Int)] 3 (0,0))) [i,j] (some ⟨W.heap.size,0,none⟩):=by
 refine Or.inr ⟨W.heap.size,_,_,rfl,Go.heap_alloc_new W _,fun k x hx => ?_⟩
 match k,hx with
 | 0,hx=>simp at hx;subst hx;rfl
 | 1,hx=>simp at hx;subst hx;rfl
 | k+2,hx=>simp at hx
theorem rdec_m (s:RS g w h sl cl d ka kc ca cc ba bc na nc) (hb:d.code.length≤60000) (hcs:d.cs.length≤60000) (a b:Int) (l:List Nat) (la:Option Addr) (lc:Nat) (hl:∀ j ∈ l,j < d.code.length) (hla:NumAt w l la) (hll:l.length≤1000) (hn:∀ b,V.obk la=some b→b≠g∧V.obk ba≠some b∧V.obk na≠some b):Calls Tryz.prog 74 #[.pointer (some ⟨g,0,none⟩),.int .i64 a,.int .i64 b,.slice la l.length lc] w (RDone g w h sl cl (d.dec a b l) ba na):=by
 have R0:=zh s.refl;have k1:=cst_len d (some (.inl a));have k2:=cst_cs d (some (.inl a));have k4:∀ (m:RG) (l:List Nat),(m.land l).cs=m.cs:=fun _ _=>rfl;have H1:=zh (fun (W:World) (x:RGAns g w h sl cl d ba na W)=>rconst_k (some (.inl a)) x (by omega) (by omega));have H2:=zh (fun (W:World) (x:RGAns g w h sl cl (d.cst (some (.inl a))) ba na W)=>radd_k x (by omega) 7 0 0);have H3:=zh (fun (W:World) (x:RGAns g w h sl cl ((d.cst (some (.inl a))).add 7 0 0) ba na W)=>rland_k x (by rw[add_len];omega) l la lc (fun j hj=>by rw[add_len];have:=hl j hj;omega) (hla.rf x.rf hn) (by omega));have H5:=zh (fun (W:World) (x:RGAns g w h sl cl (((d.cst (some (.inl a))).add 7 0 0).land l) ba na W)=>rconst_k (some (.inl b)) x (by rw[land_len,add_len];omega) (by rw[k4];show (d.cst (some (.inl a))).cs.length≤_;omega))
 have H6:=zh (fun (W:World) (x:RGAns g w h sl cl ((((d.cst (some (.inl a))).add 7 0 0).land l).cst (some (.inl b))) ba na W)=>land1 x (by rw[cst_len,land_len,add_len];omega) (d.cst (some (.inl a))).code.length (by rw[cst_len,cst_len,land_len,add_len,cst_len];omega));generalize hLL:l.length=M at *;clear hLL;clear s hla hl hn k1 k2 k4 hb hcs hll
 go_enter Tryz.func74,Tryz.ntmps74
 go_wp2_with (first
  | (have G:=zu R0;clear G;go_at_call 69;refine Calls.mono (rint_k _ _) ?_;rintro e w1 ⟨rfl,hx⟩;have R1:=zh ((zu R0).ext hx);clear hx R0)
  | (have G:=zu R1;clear G;go_at_call 17;refine Calls.mono (zu H1 _ (zu R1)) ?_;rintro e w2 ⟨rfl,hr⟩;have R2:=zh hr;clear hr R1)
  | (have G:=zu R2;clear G;go_at_call 18;refine Calls.mono (zu H2 _ (zu R2)) ?_;rintro e w3 ⟨rfl,hr⟩;have R3:=zh hr;clear hr R2)
  | (have G:=zu R3;clear G;go_at_call 42;refine Calls.mono (zu H3 _ (zu R3)) ?_;rintro e w4 ⟨rfl,hr⟩;have R4:=zh hr;clear hr R3)
  | (have G:=zu R4;clear G;go_at_call 69;refine Calls.mono (rint_k _ _) ?_;rintro e w5 ⟨rfl,hx⟩;have R5:=zh ((zu R4).ext hx);clear hx R4)
  | (have G:=zu R5;clear G;go_at_call 17;refine Calls.mono (zu H5 _ (zu R5)) ?_;rintro e w6 ⟨rfl,hr⟩;have R6:=zh hr;clear hr R5)
  | (have G:=zu R6;clear G;go_at_call 42;refine Calls.mono (zu H6 _ (zu R6)) ?_;rintro e w7 ⟨rfl,hr⟩;have R7:=zh hr;clear hr R6))
 go_end0
 exact⟨rfl,zu R7⟩
theorem dec2 (x:RGAns g w0 h sl cl d ba na w) (hb:d.code.length≤60000) (hcs:d.cs.length≤60000) (a b:Int) (i j:Nat) (hi:i < d.code.length) (hj:j < d.code.length):Calls Tryz.prog 74 #[.pointer (some ⟨g,0,none⟩),.int .i64 a,.int .i64 b,.slice (some ⟨w.heap.size,0,none⟩) 2 2] (w.alloc (.cells #[.int .i64 (i:Int),.int .i64 (j:Int)] 3 (0,0))) (RDone g w0 h sl cl (d.dec a b [i,j]) ba na):=by
 obtain⟨ka,kc,ca,cc,ba',bc,na',nc,s,f,n1,n2⟩:=x;have s2:=s.ext (Ext.alloc w (.cells #[.int .i64 (i:Int),.int .i64 (j:Int)] 3 (0,0)));have A:RGAns g w0 h sl cl d ba na (w.alloc (.cells #[.int .i64 (i:Int),.int .i64 (j:Int)] 3 (0,0))):=⟨ka,kc,ca,cc,ba',bc,na',nc,s2,f.trans (RF.of s.lt (Ext.alloc _ _)) n1 n2,n1,n2⟩;refine Calls.mono (rdec_m s2 hb hcs a b [i,j] (some ⟨w.heap.size,0,none⟩) 2 (fun k hk=>by simp at hk;omega) (num2 w i j) (by simp) (fun q hq => ?_)) ?_
 ·have hq:w.heap.size=q:=by simpa [V.obk,Value.ownBlock] using hq
  subst hq;exact⟨by have:=s.lt;omega,s.blk.1,s.blk.2⟩
 ·rintro e w' ⟨rfl,ka2,kc2,ca2,cc2,ba2,bc2,na2,nc2,s3,f2,m1,m2⟩
  have f1:=f.trans (RF.of s.lt (Ext.alloc w (.cells #[.int .i64 (i:Int),.int .i64 (j:Int)] 3 (0,0)))) n1 n2;exact⟨rfl,ka2,kc2,ca2,cc2,ba2,bc2,na2,nc2,s3,f1.trans f2 n1 n2,n1.trans m1 f1.size,n2.trans m2 f1.size⟩
theorem expr_int (I:NdOk g h sl cl nd) (P:NdP nd) {o n:Int} {s:ByteArray} {l:List PN} {v:Value} (e:rG (d.cst (some (.inl n)))=some d') (ho:d.ok=true) (hl:l.length≤1000000) (st:RS g w h sl cl d ka kc ca cc ba bc na nc) (hr:RepN w (fun b=>b < g) ⟨15,o,s,n,l⟩ v):Calls Tryz.prog 44 #[.pointer (some ⟨g,0,none⟩),v] w (RDone g w h sl cl d' ba na):=by
 rw[RepN] at hr;obtain⟨a,cap,rfl,hcap,hrl⟩:=hr;obtain⟨A0,BX,F0⟩:=st.box 15 o s n (.slice a l.length cap);have hrb:RepNL (w.alloc (nodO 15 o s n (.slice a l.length cap))) (fun b=>b < g) l a:=RepNL.to (fun b hb=>⟨hb,F0.low b hb⟩) _ a hrl;obtain⟨e,hok⟩:=rG_some e;subst e;have o1:=rok_parts ho;have H0:=zh (fun (W:World) (x:RGAns g (w.alloc (nodO 15 o s n (.slice a l.length cap))) h sl cl d ba na W)=>rint_k n W);have H1:=zh (fun (W:World) (x:RGAns g (w.alloc (nodO 15 o s n (.slice a l.length cap))) h sl cl d ba na W)=>rconst_k (some (.inl n)) x (by omega) (by omega));have R0:=zh A0;have HB:=zh BX;have HF:=zh F0;obtain⟨b0,b1,b2,b3,b4⟩:=BX.c A0;clear A0 BX F0 hrb hrl st I P e o1 hok ho
 go_enter Tryz.func44,Tryz.ntmps44
 go_wp2_with (first
  | (go_at_call 69;refine Calls.mono (zu H0 _ (zu R0)) ?_;rintro e w1 ⟨rfl,hx⟩;have R1:=zh ((zu R0).ext hx);clear hx R0;clear b0 b1 b2 b3 b4;obtain⟨b0,b1,b2,b3,b4⟩:=(zu HB).c (zu R1))
  | (have G:=zu R1;clear G;go_at_call 17;refine Calls.mono (zu H1 _ (zu R1)) ?_;rintro e w2 ⟨rfl,hr⟩;have R2:=zh hr;clear hr R1;clear b0 b1 b2 b3 b4;obtain⟨b0,b1,b2,b3,b4⟩:=(zu HB).c (zu R2)))
 go_end0
 exact⟨rfl,RGAns.on (zu HF) (zu R2)⟩
theorem expr_img (I:NdOk g h sl cl nd) (P:NdP nd) {o:Int} {s:ByteArray} {l:List PN} {v:Value} (e:rG (d.cst (some (.inr true)))=some d') (ho:d.ok=true) (hl:l.length≤1000000) (st:RS g w h sl cl d ka kc ca cc ba bc na nc) (hr:RepN w (fun b=>b < g) ⟨16,o,s,2,l⟩ v):Calls Tryz.prog 44 #[.pointer (some ⟨g,0,none⟩),v] w (RDone g w h sl cl d' ba na):=by
 rw[RepN] at hr;obtain⟨a,cap,rfl,hcap,hrl⟩:=hr;obtain⟨A0,BX,F0⟩:=st.box 16 o s 2 (.slice a l.length cap);have hrb:RepNL (w.alloc (nodO 16 o s 2 (.slice a l.length cap))) (fun b=>b < g) l a:=RepNL.to (fun b hb=>⟨hb,F0.low b hb⟩) _ a hrl;obtain⟨e,hok⟩:=rG_some e;subst e;have o1:=rok_parts ho;have H0:=zh (fun (W:World) (x:RGAns g (w.alloc (nodO 16 o s 2 (.slice a l.length cap))) h sl cl d ba na W)=>rcx2_k W);have H1:=zh (fun (W:World) (x:RGAns g (w.alloc (nodO 16 o s 2 (.slice a l.length cap))) h sl cl d ba na W)=>rconst_k (some (.inr true)) x (by omega) (by omega));have R0:=zh A0;have HB:=zh BX;have HF:=zh F0;obtain⟨b0,b1,b2,b3,b4⟩:=BX.c A0;clear A0 BX F0 hrb hrl st I P e o1 hok ho
 go_enter Tryz.func44,Tryz.ntmps44
 go_wp2_with (first
  | (go_at_call 71;refine Calls.mono (rof2_k _) ?_;rintro e wq ⟨rfl,hw⟩;obtain rfl:=hw.symm)
  | (go_at_call 70;refine Calls.mono (rclean2_k _) ?_;rintro e wq ⟨rfl,hw⟩;obtain rfl:=hw.symm)
  | (go_at_call 72;refine Calls.mono (zu H0 _ (zu R0)) ?_;rintro e w1 ⟨rfl,hx⟩;have R1:=zh ((zu R0).ext hx);clear hx R0;clear b0 b1 b2 b3 b4;obtain⟨b0,b1,b2,b3,b4⟩:=(zu HB).c (zu R1))
  | (have G:=zu R1;clear G;go_at_call 17;refine Calls.mono (zu H1 _ (zu R1)) ?_;rintro e w2 ⟨rfl,hr⟩;have R2:=zh hr;clear hr R1;clear b0 b1 b2 b3 b4;obtain⟨b0,b1,b2,b3,b4⟩:=(zu HB).c (zu R2)))
 go_end0
 exact⟨rfl,RGAns.on (zu HF) (zu R2)⟩
theorem expr_txt (I:NdOk g h sl cl nd) (P:NdP nd) {o n:Int} {l:List PN} {v:Value} (e:rG (d.cst (some (.inr false)))=some d') (ho:d.ok=true) (hl:l.length≤1000000) (st:RS g w h sl cl d ka kc ca cc ba bc na nc) (hr:RepN w (fun b=>b < g) ⟨17,o,⟨#[]⟩,n,l⟩ v):Calls Tryz.prog 44 #[.pointer (some ⟨g,0,none⟩),v] w (RDone g w h sl cl d' ba na):=by
 rw[RepN] at hr;obtain⟨a,cap,rfl,hcap,hrl⟩:=hr;obtain⟨A0,BX,F0⟩:=st.box 17 o ⟨#[]⟩ n (.slice a l.length cap);have hrb:RepNL (w.alloc (nodO 17 o ⟨#[]⟩ n (.slice a l.length cap))) (fun b=>b < g) l a:=RepNL.to (fun b hb=>⟨hb,F0.low b hb⟩) _ a hrl;obtain⟨e,hok⟩:=rG_some e;subst e;have o1:=rok_parts ho;have H0:=zh (fun (W:World) (x:RGAns g (w.alloc (nodO 17 o ⟨#[]⟩ n (.slice a l.length cap))) h sl cl d ba na W)=>rtxt0_k W);have H1:=zh (fun (W:World) (x:RGAns g (w.alloc (nodO 17 o ⟨#[]⟩ n (.slice a l.length cap))) h sl cl d ba na W)=>rconst_k (some (.inr false)) x (by omega) (by omega));have R0:=zh A0;have HB:=zh BX;have HF:=zh F0;obtain⟨b0,b1,b2,b3,b4⟩:=BX.c A0;clear A0 BX F0 hrb hrl st I P e o1 hok ho
 go_enter Tryz.func44,Tryz.ntmps44
 go_wp2_with (first
  | (go_at_call 73;refine Calls.mono (zu H0 _ (zu R0)) ?_;rintro e w1 ⟨rfl,hx⟩;have R1:=zh ((zu R0).ext hx);clear hx R0;clear b0 b1 b2 b3 b4;obtain⟨b0,b1,b2,b3,b4⟩:=(zu HB).c (zu R1))
  | (have G:=zu R1;clear G;go_at_call 17;refine Calls.mono (zu H1 _ (zu R1)) ?_;rintro e w2 ⟨rfl,hr⟩;have R2:=zh hr;clear hr R1;clear b0 b1 b2 b3 b4;obtain⟨b0,b1,b2,b3,b4⟩:=(zu HB).c (zu R2)))
 go_end0
 exact⟨rfl,RGAns.on (zu HF) (zu R2)⟩
theorem expr_nil (I:NdOk g h sl cl nd) (P:NdP nd) {o n:Int} {s:ByteArray} {l:List PN} {v:Value} (e:rG (d.cst none)=some d') (ho:d.ok=true) (hl:l.length≤1000000) (st:RS g w h sl cl d ka kc ca cc ba bc na nc) (hr:RepN w (fun b=>b < g) ⟨18,o,s,n,l⟩ v):Calls Tryz.prog 44 #[.pointer (some ⟨g,0,none⟩),v] w (RDone g w h sl cl d' ba na):=by
 rw[RepN] at hr;obtain⟨a,cap,rfl,hcap,hrl⟩:=hr;obtain⟨A0,BX,F0⟩:=st.box 18 o s n (.slice a l.length cap);have hrb:RepNL (w.alloc (nodO 18 o s n (.slice a l.length cap))) (fun b=>b < g) l a:=RepNL.to (fun b hb=>⟨hb,F0.low b hb⟩) _ a hrl;obtain⟨e,hok⟩:=rG_some e;subst e;have o1:=rok_parts ho;have H0:=zh (fun (W:World) (x:RGAns g (w.alloc (nodO 18 o s n (.slice a l.length cap))) h sl cl d ba na W)=>rconst_k none x (by omega) (by omega));have R0:=zh A0;have HB:=zh BX;have HF:=zh F0;obtain⟨b0,b1,b2,b3,b4⟩:=BX.c A0;clear A0 BX F0 hrb hrl st I P e o1 hok ho
 go_enter Tryz.func44,Tryz.ntmps44
 go_wp2_with (first
  | (have G:=zu R0;clear G;go_at_call 17;refine Calls.mono (zu H0 _ (zu R0)) ?_;rintro e w1 ⟨rfl,hr⟩;have R1:=zh hr;clear hr R0;clear b0 b1 b2 b3 b4;obtain⟨b0,b1,b2,b3,b4⟩:=(zu HB).c (zu R1)))
 go_end0
 exact⟨rfl,RGAns.on (zu HF) (zu R1)⟩
theorem expr_var (I:NdOk g h sl cl nd) (P:NdP nd) {o n:Int} {s:ByteArray} {l:List PN} {v:Value} (e:rVar sl d=some d') (ho:d.ok=true) (hl:l.length≤1000000) (st:RS g w h sl cl d ka kc ca cc ba bc na nc) (hr:RepN w (fun b=>b < g) ⟨19,o,s,n,l⟩ v):Calls Tryz.prog 44 #[.pointer (some ⟨g,0,none⟩),v] w (RDone g w h sl cl d' ba na):=by
 rw[RepN] at hr;obtain⟨a,cap,rfl,hcap,hrl⟩:=hr;obtain⟨A0,BX,F0⟩:=st.box 19 o s n (.slice a l.length cap);have hrb:RepNL (w.alloc (nodO 19 o s n (.slice a l.length cap))) (fun b=>b < g) l a:=RepNL.to (fun b hb=>⟨hb,F0.low b hb⟩) _ a hrl;obtain⟨k,ek,e⟩:=rB_some e;obtain⟨e,hok⟩:=rG_some e;subst e;have o1:=rok_parts ho;have H0:=zh (fun (W:World) (x:RGAns g (w.alloc (nodO 19 o s n (.slice a l.length cap))) h sl cl d ba na W)=>rslot_k x (by omega) k ek);have H1:=zh (fun (W:World) (x:RGAns g (w.alloc (nodO 19 o s n (.slice a l.length cap))) h sl cl ({ d with sp:=d.sp+1 }:RG) ba na W)=>radd_k x (by show d.code.length≤90000;omega) 2 k 0);have R0:=zh A0;have HB:=zh BX;have HF:=zh F0;obtain⟨b0,b1,b2,b3,b4⟩:=BX.c A0;clear A0 BX F0 hrb hrl st I P e o1 hok ho ek
 go_enter Tryz.func44,Tryz.ntmps44
 go_wp2_with (first
  | (have G:=zu R0;clear G;go_at_call 41;refine Calls.mono (zu H0 _ (zu R0)) ?_;rintro e w1 ⟨rfl,hr⟩;have R1:=zh hr;clear hr R0;clear b0 b1 b2 b3 b4;obtain⟨b0,b1,b2,b3,b4⟩:=(zu HB).c (zu R1))
  | (have G:=zu R1;clear G;go_at_call 18;refine Calls.mono (zu H1 _ (zu R1)) ?_;rintro e w2 ⟨rfl,hr⟩;have R2:=zh hr;clear hr R1;clear b0 b1 b2 b3 b4;obtain⟨b0,b1,b2,b3,b4⟩:=(zu HB).c (zu R2)))
 go_end0
 exact⟨rfl,RGAns.on (zu HF) (zu R2)⟩
theorem expr_and (I:NdOk g h sl cl nd) (P:NdP nd) {o n:Int} {s:ByteArray} {p q:PN} {v:Value} (e:rAnd nd [p,q] d=some d') (ho:d.ok=true) (st:RS g w h sl cl d ka kc ca cc ba bc na nc) (hr:RepN w (fun b=>b < g) ⟨12,o,s,n,[p,q]⟩ v):Calls Tryz.prog 44 #[.pointer (some ⟨g,0,none⟩),v] w (RDone g w h sl cl d' ba na):=by
 rw[RepN] at hr;obtain⟨a,cap,rfl,hcap,hrl⟩:=hr;obtain⟨A0,BX,F0⟩:=st.box 12 o s n (.slice a 2 cap);have hrb:RepNL (w.alloc (nodO 12 o s n (.slice a 2 cap))) (fun b=>b < g) [p,q] a:=RepNL.to (fun b hb=>⟨hb,F0.low b hb⟩) _ a hrl;obtain⟨kb,ko,p0,p1,p2,p3,p4,q0,q1,q2,q3,q4,rfl,KP,KQ⟩:=kids2 hrb;obtain⟨m1,e1,e⟩:=rB_some e;obtain⟨ma,ea,e⟩:=rB_some e;obtain⟨ea,oka⟩:=rG_some ea;subst ea;obtain⟨m2,e2,e⟩:=rB_some e;obtain⟨e,hok⟩:=rG_some e;subst e;have o1:=rok_parts ((P p d m1 e1).2 ho);have o2:=rok_parts ((P q _ m2 e2).2 oka);have l2:=(P q _ m2 e2).1;rw[add_len] at l2;have H0:=zh (fun (W:World) (x:RGAns g (w.alloc (nodO 12 o s n (.slice (some ⟨kb,ko,none⟩) 2 cap))) h sl cl d ba na W)=>I.k e1 ho x (KP.at x).rep)
 have H1:=zh (fun (W:World) (x:RGAns g (w.alloc (nodO 12 o s n (.slice (some ⟨kb,ko,none⟩) 2 cap))) h sl cl m1 ba na W)=>radd_k x (by omega) 8 0 0);have H2:=zh (fun (W:World) (x:RGAns g (w.alloc (nodO 12 o s n (.slice (some ⟨kb,ko,none⟩) 2 cap))) h sl cl (m1.add 8 0 0) ba na W)=>I.k e2 oka x (KQ.at x).rep);have H3:=zh (fun (W:World) (x:RGAns g (w.alloc (nodO 12 o s n (.slice (some ⟨kb,ko,none⟩) 2 cap))) h sl cl m2 ba na W)=>radd_k x (by omega) 8 0 0);have H4:=zh (fun (W:World) (x:RGAns g (w.alloc (nodO 12 o s n (.slice (some ⟨kb,ko,none⟩) 2 cap))) h sl cl (m2.add 8 0 0) ba na W)=>dec2 x (by rw[add_len];omega) (by show m2.cs.length≤_;omega) 1 0 m1.code.length m2.code.length (by rw[add_len];omega) (by rw[add_len];omega));have R0:=zh A0;have HB:=zh BX;have HF:=zh F0;obtain⟨b0,b1,b2,b3,b4⟩:=BX.c A0
 have HK0:=zh KP;have HK1:=zh KQ;obtain⟨k0,k1,k2,k3,k4⟩:=KP.c;clear KP KQ;clear A0 BX F0 hrb hrl st I P e e1 e2 o1 o2 l2 hok ho oka
 go_enter Tryz.func44,Tryz.ntmps44
 go_wp2_with (first
  | (have G:=zu R0;clear G;go_at_call 16;refine Calls.mono (zu H0 _ (zu R0)) ?_;rintro e w1 ⟨rfl,hr⟩;have R1:=zh hr;clear hr R0;clear b0 b1 b2 b3 b4;obtain⟨b0,b1,b2,b3,b4⟩:=(zu HB).c (zu R1);clear k0 k1 k2 k3 k4;have k0:=True.intro;have k1:=True.intro;have k2:=True.intro;have k3:=True.intro;have k4:=True.intro)
  | (have G:=zu R1;clear G;go_at_call 18;refine Calls.mono (zu H1 _ (zu R1)) ?_;rintro e w2 ⟨rfl,hr⟩;have R2:=zh hr;clear hr R1;clear b0 b1 b2 b3 b4;obtain⟨b0,b1,b2,b3,b4⟩:=(zu HB).c (zu R2);clear k0 k1 k2 k3 k4;obtain⟨k0,k1,k2,k3,k4⟩:=((zu HK1).at (zu R2)).c)
  | (have G:=zu R2;clear G;go_at_call 16;refine Calls.mono (zu H2 _ (zu R2)) ?_;rintro e w3 ⟨rfl,hr⟩;have R3:=zh hr;clear hr R2;clear b0 b1 b2 b3 b4;obtain⟨b0,b1,b2,b3,b4⟩:=(zu HB).c (zu R3);clear k0 k1 k2 k3 k4;have k0:=True.intro;have k1:=True.intro;have k2:=True.intro;have k3:=True.intro;have k4:=True.intro)
  | (have G:=zu R3;clear G;go_at_call 18;refine Calls.mono (zu H3 _ (zu R3)) ?_;rintro e w4 ⟨rfl,hr⟩;have R4:=zh hr;clear hr R3;clear b0 b1 b2 b3 b4;obtain⟨b0,b1,b2,b3,b4⟩:=(zu HB).c (zu R4);clear k0 k1 k2 k3 k4;have k0:=True.intro;have k1:=True.intro;have k2:=True.intro;have k3:=True.intro;have k4:=True.intro)
  | (have G:=zu R4;clear G;go_at_call 74;refine Calls.mono (zu H4 _ (zu R4)) ?_;rintro e w5 ⟨rfl,hr⟩;have R5:=zh hr;clear hr R4;clear b0 b1 b2 b3 b4;obtain⟨b0,b1,b2,b3,b4⟩:=(zu HB).c (zu R5);clear k0 k1 k2 k3 k4;have k0:=True.intro;have k1:=True.intro;have k2:=True.intro;have k3:=True.intro;have k4:=True.intro))
 go_end0
 exact⟨rfl,RGAns.on (zu HF) (zu R5)⟩
theorem expr_or (I:NdOk g h sl cl nd) (P:NdP nd) {o n:Int} {s:ByteArray} {p q:PN} {v:Value} (e:rOr nd [p,q] d=some d') (ho:d.ok=true) (st:RS g w h sl cl d ka kc ca cc ba bc na nc) (hr:RepN w (fun b=>b < g) ⟨13,o,s,n,[p,q]⟩ v):Calls Tryz.prog 44 #[.pointer (some ⟨g,0,none⟩),v] w (RDone g w h sl cl d' ba na):=by
 rw[RepN] at hr;obtain⟨a,cap,rfl,hcap,hrl⟩:=hr;obtain⟨A0,BX,F0⟩:=st.box 13 o s n (.slice a 2 cap);have hrb:RepNL (w.alloc (nodO 13 o s n (.slice a 2 cap))) (fun b=>b < g) [p,q] a:=RepNL.to (fun b hb=>⟨hb,F0.low b hb⟩) _ a hrl;obtain⟨kb,ko,p0,p1,p2,p3,p4,q0,q1,q2,q3,q4,rfl,KP,KQ⟩:=kids2 hrb;obtain⟨m1,e1,e⟩:=rB_some e;obtain⟨ma,ea,e⟩:=rB_some e;obtain⟨ea,oka⟩:=rG_some ea;subst ea;obtain⟨m2,e2,e⟩:=rB_some e;obtain⟨e,hok⟩:=rG_some e;subst e;have o1:=rok_parts ((P p d m1 e1).2 ho);have o2:=rok_parts ((P q _ m2 e2).2 oka);have l2:=(P q _ m2 e2).1;rw[add_len,add_len] at l2;have y1:=add_len m1 6 16 0;have y2:=add_len m2 6 16 0;have H0:=zh (fun (W:World) (x:RGAns g (w.alloc (nodO 13 o s n (.slice (some ⟨kb,ko,none⟩) 2 cap))) h sl cl d ba na W)=>I.k e1 ho x (KP.at x).rep)
 have H1:=zh (fun (W:World) (x:RGAns g (w.alloc (nodO 13 o s n (.slice (some ⟨kb,ko,none⟩) 2 cap))) h sl cl m1 ba na W)=>radd_k x (by omega) 6 16 0);have H2:=zh (fun (W:World) (x:RGAns g (w.alloc (nodO 13 o s n (.slice (some ⟨kb,ko,none⟩) 2 cap))) h sl cl (m1.add 6 16 0) ba na W)=>(add_len m1 6 16 0) ▸ radd_k x (by omega) 8 0 0);have H3:=zh (fun (W:World) (x:RGAns g (w.alloc (nodO 13 o s n (.slice (some ⟨kb,ko,none⟩) 2 cap))) h sl cl ((m1.add 6 16 0).add 8 0 0) ba na W)=>I.k e2 oka x (KQ.at x).rep);have H4:=zh (fun (W:World) (x:RGAns g (w.alloc (nodO 13 o s n (.slice (some ⟨kb,ko,none⟩) 2 cap))) h sl cl m2 ba na W)=>radd_k x (by omega) 6 16 0);have H5:=zh (fun (W:World) (x:RGAns g (w.alloc (nodO 13 o s n (.slice (some ⟨kb,ko,none⟩) 2 cap))) h sl cl (m2.add 6 16 0) ba na W)=>(add_len m2 6 16 0) ▸ radd_k x (by omega) 8 0 0)
 have H6:=zh (fun (W:World) (x:RGAns g (w.alloc (nodO 13 o s n (.slice (some ⟨kb,ko,none⟩) 2 cap))) h sl cl ((m2.add 6 16 0).add 8 0 0) ba na W)=>dec2 x (by rw[add_len,add_len];omega) (by show m2.cs.length≤_;omega) 0 1 (m1.code.length+1) (m2.code.length+1) (by rw[add_len,add_len];omega) (by rw[add_len,add_len];omega));have R0:=zh A0;have HB:=zh BX;have HF:=zh F0;obtain⟨b0,b1,b2,b3,b4⟩:=BX.c A0;have HK0:=zh KP;have HK1:=zh KQ;obtain⟨k0,k1,k2,k3,k4⟩:=KP.c;clear KP KQ;clear A0 BX F0 hrb hrl st I P e e1 e2 o1 o2 l2 hok ho oka y1 y2
 go_enter Tryz.func44,Tryz.ntmps44
 go_wp2_with (first
  | (have G:=zu R0;clear G;go_at_call 16;refine Calls.mono (zu H0 _ (zu R0)) ?_;rintro e w1 ⟨rfl,hr⟩;have R1:=zh hr;clear hr R0;clear b0 b1 b2 b3 b4;obtain⟨b0,b1,b2,b3,b4⟩:=(zu HB).c (zu R1);clear k0 k1 k2 k3 k4;have k0:=True.intro;have k1:=True.intro;have k2:=True.intro;have k3:=True.intro;have k4:=True.intro)
  | (have G:=zu R1;clear G;go_at_call 18;refine Calls.mono (zu H1 _ (zu R1)) ?_;rintro e w2 ⟨rfl,hr⟩;have R2:=zh hr;clear hr R1;clear b0 b1 b2 b3 b4;obtain⟨b0,b1,b2,b3,b4⟩:=(zu HB).c (zu R2);clear k0 k1 k2 k3 k4;have k0:=True.intro;have k1:=True.intro;have k2:=True.intro;have k3:=True.intro;have k4:=True.intro)
  | (have G:=zu R2;clear G;go_at_call 18;refine Calls.mono (zu H2 _ (zu R2)) ?_;rintro e w3 ⟨rfl,hr⟩;have R3:=zh hr;clear hr R2;clear b0 b1 b2 b3 b4;obtain⟨b0,b1,b2,b3,b4⟩:=(zu HB).c (zu R3);clear k0 k1 k2 k3 k4;obtain⟨k0,k1,k2,k3,k4⟩:=((zu HK1).at (zu R3)).c)
  | (have G:=zu R3;clear G;go_at_call 16;refine Calls.mono (zu H3 _ (zu R3)) ?_;rintro e w4 ⟨rfl,hr⟩;have R4:=zh hr;clear hr R3;clear b0 b1 b2 b3 b4;obtain⟨b0,b1,b2,b3,b4⟩:=(zu HB).c (zu R4);clear k0 k1 k2 k3 k4;have k0:=True.intro;have k1:=True.intro;have k2:=True.intro;have k3:=True.intro;have k4:=True.intro)
  | (have G:=zu R4;clear G;go_at_call 18;refine Calls.mono (zu H4 _ (zu R4)) ?_;rintro e w5 ⟨rfl,hr⟩;have R5:=zh hr;clear hr R4;clear b0 b1 b2 b3 b4;obtain⟨b0,b1,b2,b3,b4⟩:=(zu HB).c (zu R5);clear k0 k1 k2 k3 k4;have k0:=True.intro;have k1:=True.intro;have k2:=True.intro;have k3:=True.intro;have k4:=True.intro)
  | (have G:=zu R5;clear G;go_at_call 18;refine Calls.mono (zu H5 _ (zu R5)) ?_;rintro e w6 ⟨rfl,hr⟩;have R6:=zh hr;clear hr R5;clear b0 b1 b2 b3 b4;obtain⟨b0,b1,b2,b3,b4⟩:=(zu HB).c (zu R6);clear k0 k1 k2 k3 k4;have k0:=True.intro;have k1:=True.intro;have k2:=True.intro;have k3:=True.intro;have k4:=True.intro)
  | (have G:=zu R6;clear G;go_at_call 74;refine Calls.mono (zu H6 _ (zu R6)) ?_;rintro e w7 ⟨rfl,hr⟩;have R7:=zh hr;clear hr R6;clear b0 b1 b2 b3 b4;obtain⟨b0,b1,b2,b3,b4⟩:=(zu HB).c (zu R7);clear k0 k1 k2 k3 k4;have k0:=True.intro;have k1:=True.intro;have k2:=True.intro;have k3:=True.intro;have k4:=True.intro))
 go_end0
 exact⟨rfl,RGAns.on (zu HF) (zu R7)⟩
end
section
variable {g:Nat} {w w0 w1 w' w2:World} {h:RHd} {sl cl:List Int} {d d':RG} {ka ca ba na:Option Addr} {kc cc bc nc:Nat} {nd:PN→RG→Option RG}
theorem node_ret0 (I:NdOk g h sl cl nd) (P:NdP nd) {o n:Int} {s:ByteArray} {v:Value} (e:rRet nd [] d=some d') (ho:d.ok=true) (st:RS g w h sl cl d ka kc ca cc ba bc na nc) (hr:RepN w (fun b=>b < g) ⟨7,o,s,n,[]⟩ v):Calls Tryz.prog 16 #[.pointer (some ⟨g,0,none⟩),v] w (RDone g w h sl cl d' ba na):=by
 rw[RepN] at hr;obtain⟨a,cap,rfl,hcap,hrl⟩:=hr;obtain⟨A0,BX,F0⟩:=st.box 7 o s n (.slice a 0 cap);have hrb:RepNL (w.alloc (nodO 7 o s n (.slice a 0 cap))) (fun b=>b < g) [] a:=by simp[RepNL]
 obtain⟨m0,e0,e⟩:=rB_some e;rw[if_pos rfl] at e0;obtain⟨e0,ok0⟩:=rG_some e0;subst e0;obtain⟨m1,e1,e⟩:=rB_some e;obtain⟨e,hok⟩:=rG_some e;subst e;have o0:=rok_parts ho;have o1:=rok_parts ((rAll_both P [] _ m1 e1).2 ok0);have H0:=zh (fun (W:World) (x:RGAns g (w.alloc (nodO 7 o s n (.slice a 0 cap))) h sl cl d ba na W)=>rconst_k none x (by omega) (by omega));have H1:=zh (fun (W:World) (x:RGAns g (w.alloc (nodO 7 o s n (.slice a 0 cap))) h sl cl (d.cst none) ba na W)=>rall_m I P [] e1 ok0 (by simp) a cap x hrb);have H2:=zh (fun (W:World) (x:RGAns g (w.alloc (nodO 7 o s n (.slice a 0 cap))) h sl cl m1 ba na W)=>radd_k x (by omega) 10 0 0);have R0:=zh A0;have HB:=zh BX;have HF:=zh F0;obtain⟨b0,b1,b2,b3,b4⟩:=BX.c A0;clear A0 BX F0 hrb hrl st I P e e1 o0 o1 hok ho ok0
 go_enter Tryz.func16,Tryz.ntmps16
 go_wp2_with (first
  | (have G:=zu R0;clear G;go_at_call 17;refine Calls.mono (zu H0 _ (zu R0)) ?_;rintro e w1 ⟨rfl,hr⟩;have R1:=zh hr;clear hr R0;clear b0 b1 b2 b3 b4;obtain⟨b0,b1,b2,b3,b4⟩:=(zu HB).c (zu R1))
  | (have G:=zu R1;clear G;go_at_call 40;refine Calls.mono (zu H1 _ (zu R1)) ?_;rintro e w2 ⟨rfl,hr⟩;have R2:=zh hr;clear hr R1;clear b0 b1 b2 b3 b4;obtain⟨b0,b1,b2,b3,b4⟩:=(zu HB).c (zu R2))
  | (have G:=zu R2;clear G;go_at_call 18;refine Calls.mono (zu H2 _ (zu R2)) ?_;rintro e w3 ⟨rfl,hr⟩;have R3:=zh hr;clear hr R2))
 go_end0
 exact⟨rfl,RGAns.on (zu HF) (zu R3)⟩
end
section
variable {g:Nat} {w w0 w1 w' w2:World} {h:RHd} {sl cl:List Int} {d d':RG} {ka ca ba na:Option Addr} {kc cc bc nc:Nat} {nd:PN→RG→Option RG}
theorem RGAns.setCp (x:RGAns g w0 h sl cl d ba na w) (c:Nat):RGAns g w0 h sl cl { d with cp:=c } ba na (w.setCell ⟨g,9,none⟩ (.int .i64 (c:Int))):=by
 obtain⟨ka,kc,ca,cc,ba',bc,na',nc,s,f,n1,n2⟩:=x;exact⟨ka,kc,ca,cc,ba',bc,na',nc,s.setCp c,f.set 9 _,n1,n2⟩
theorem RGAns.callAt (x:RGAns g w0 h sl cl d ba na w) {k:Int} (hk:cl[d.cp]? = some k):∃ b o,w.cell? ⟨g,7,none⟩=some (.slice (some ⟨b,o,none⟩) cl.length h.lcap)∧w.cell? ⟨g,9,none⟩=some (.int .i64 (d.cp:Int))∧w.cell? ⟨b,o+d.cp,none⟩=some (.int .i64 k)∧(∀ i,w.frozen? ⟨g,i,none⟩=false)∧d.cp < cl.length:=by
 obtain⟨ka,kc,ca,cc,ba',bc,na',nc,s,f,n1,n2⟩:=x;obtain⟨c3,c4,c6,c7,c8,c9,c10,c11,c12,c13,zf⟩:=rg_c s.row;rcases s.cl with h0 | ⟨b,o,h1,h2,h3⟩
 ·rw[h0] at hk;simp at hk
 ·exact⟨b,o,by rw[← h1];exact c7,c9,h3 d.cp k hk,zf,(List.getElem?_eq_some_iff.1 hk).1⟩
theorem expr_call (I:NdOk g h sl cl nd) (P:NdP nd) {o n:Int} {s:ByteArray} {l:List PN} {v:Value} (e:rCall nd cl l d=some d') (ho:d.ok=true) (hl:l.length≤1000000) (st:RS g w h sl cl d ka kc ca cc ba bc na nc) (hr:RepN w (fun b=>b < g) ⟨20,o,s,n,l⟩ v):Calls Tryz.prog 44 #[.pointer (some ⟨g,0,none⟩),v] w (RDone g w h sl cl d' ba na):=by
 rw[RepN] at hr;obtain⟨a,cap,rfl,hcap,hrl⟩:=hr;obtain⟨A0,BX,F0⟩:=st.box 20 o s n (.slice a l.length cap);have hrb:RepNL (w.alloc (nodO 20 o s n (.slice a l.length cap))) (fun b=>b < g) l a:=RepNL.to (fun b hb=>⟨hb,F0.low b hb⟩) _ a hrl;obtain⟨m1,e1,e⟩:=rB_some e;obtain⟨k,ek,e⟩:=rB_some e;have o1:=rok_parts ((rAll_both P l d m1 e1).2 ho);have H0:=zh (fun (W:World) (x:RGAns g (w.alloc (nodO 20 o s n (.slice a l.length cap))) h sl cl d ba na W)=>rall_m I P l e1 ho hl a cap x hrb);have HK:=zh ek;by_cases hk0:0≤k∧k≤1000000
 ·rw[if_pos hk0] at e
  have HT:=zh (fun (W:World) (x:RGAns g (w.alloc (nodO 20 o s n (.slice a l.length cap))) h sl cl ({ m1 with cp:=m1.cp+1 }:RG) ba na W)=>rtick_k x (by show m1.code.length≤_;omega) (by show 0≤m1.tk∧m1.tk≤_;omega));have HAd:=zh (fun (op aa bb:Int) (W:World) (x:RGAns g (w.alloc (nodO 20 o s n (.slice a l.length cap))) h sl cl ({ m1 with cp:=m1.cp+1 }:RG) ba na W)=>radd_k x (by show m1.code.length≤_;omega) op aa bb);have HAt:=zh (fun (op aa bb:Int) (W:World) (x:RGAns g (w.alloc (nodO 20 o s n (.slice a l.length cap))) h sl cl ({ m1 with cp:=m1.cp+1 }:RG).tick ba na W)=>radd_k x (by rw[rtick_len];show m1.code.length+1≤_;omega) op aa bb);have R0:=zh A0;have HB:=zh BX;have HF:=zh F0;obtain⟨b0,b1,b2,b3,b4⟩:=BX.c A0;have hcp:m1.cp≤50000:=by omega
  have hBg:=BX.ne;have hk1:=hk0.1;have hk2:=hk0.2;clear A0 BX F0 hrb hrl st I P e1 o1 ho ek hk0;by_cases hk:k < 1000
  ·rw[if_pos hk] at e
   obtain⟨e,hok⟩:=rG_some e;subst e;have hkd:decide (k < 1000)=true:=by simpa using hk
   clear hok
   go_enter Tryz.func44,Tryz.ntmps44
   go_wp2_with (first
    | (have G:=zu R0;clear G;go_at_call 40;refine Calls.mono (zu H0 _ (zu R0)) ?_;rintro e w1 ⟨rfl,hr⟩;have R1:=zh hr;clear hr R0;clear b0 b1 b2 b3 b4))
   obtain⟨cb,co,c7,c9,ck,zf,hlt⟩:=(zu R1).callAt (zu HK);have hne:Nonempty (RGw w1):=⟨⟨w1,Ext.refl _⟩⟩;have hlt2:(m1.cp:Int) < (cl.length:Int):=by omega
   have y7:∀ y:RGw w1,y.w.cell? ⟨g,7,none⟩=some (.slice (some ⟨cb,co,none⟩) cl.length h.lcap):=fun y=>y.h.cell c7;have y9:∀ y:RGw w1,y.w.cell? ⟨g,9,none⟩=some (.int .i64 (m1.cp:Int)):=fun y=>y.h.cell c9;have yk:∀ y:RGw w1,y.w.cell? ⟨cb,co+m1.cp,none⟩=some (.int .i64 k):=fun y=>y.h.cell ck;refine wp_region_rx (W:=w1) (by kernel_rfl) (by kernel_rfl) (Ext.refl _) ?_
   repeat (go_big_quiet_step (fail))
   refine wpQuiet_nil ?_;rintro w4 ⟨⟨_,hx4⟩,rfl⟩;have R4:=zh ((zu R1).ext hx4);have d9:=hx4.cell c9;obtain⟨_,_,_,_,_,zf4,_⟩:=(zu R4).callAt (zu HK);have R5:=zh ((zu R4).setCp (m1.cp+1));rw[show ((m1.cp+1:Nat):Int)=(m1.cp:Int)+1 by omega] at R5;obtain⟨f0,f1,f2,f3,f4⟩:=(zu HB).c (zu R5);clear hx4 y7 y9 yk c7 c9 ck zf
   go_wp2_with (first
    | (have G:=zu R5;clear G;go_at_call 68;refine Calls.mono (zu HT _ (zu R5)) ?_;rintro e w6 ⟨rfl,hr⟩;have R6:=zh hr;clear hr R5;clear f0 f1 f2 f3 f4;obtain⟨f0,f1,f2,f3,f4⟩:=(zu HB).c (zu R6))
    | (have G:=zu R6;clear G;go_at_call 18;refine Calls.mono (zu HAt _ _ _ _ (zu R6)) ?_;rintro e w7 ⟨rfl,hr⟩;have R7:=zh hr;clear hr R6))
   go_end0
   exact⟨rfl,RGAns.on (zu HF) (zu R7)⟩
  ·rw[if_neg hk] at e
   have hkd:decide (k < 1000)=false:=by simpa using hk
   have HE:∃ op:Int,(((l.length:Int) == 2)=true∧op=5∨((l.length:Int) == 2)=false∧op=6)∧d' = ({ m1 with cp:=m1.cp+1 }:RG).add op (k - 1000) 0:=by
    by_cases h2:l.length=2
    ·rw[if_pos h2] at e
     exact⟨5,Or.inl ⟨by simp[h2],rfl⟩,(rG_some e).1.symm⟩
    ·rw[if_neg h2] at e
     refine⟨6,Or.inr ⟨?_,rfl⟩,(rG_some e).1.symm⟩;have:¬ (l.length:Int)=2:=by omega
     simpa using this
   obtain⟨op,hop,hd⟩:=HE;subst hd;clear e;rcases hop with⟨h2,rfl⟩ | ⟨h2,rfl⟩
   all_goals
    go_enter Tryz.func44,Tryz.ntmps44
    go_wp2_with (first
     | (have G:=zu R0;clear G;go_at_call 40;refine Calls.mono (zu H0 _ (zu R0)) ?_;rintro e w1 ⟨rfl,hr⟩;have R1:=zh hr;clear hr R0;clear b0 b1 b2 b3 b4))
    obtain⟨cb,co,c7,c9,ck,zf,hlt⟩:=(zu R1).callAt (zu HK);have hne:Nonempty (RGw w1):=⟨⟨w1,Ext.refl _⟩⟩;have hlt2:(m1.cp:Int) < (cl.length:Int):=by omega
    have y7:∀ y:RGw w1,y.w.cell? ⟨g,7,none⟩=some (.slice (some ⟨cb,co,none⟩) cl.length h.lcap):=fun y=>y.h.cell c7;have y9:∀ y:RGw w1,y.w.cell? ⟨g,9,none⟩=some (.int .i64 (m1.cp:Int)):=fun y=>y.h.cell c9;have yk:∀ y:RGw w1,y.w.cell? ⟨cb,co+m1.cp,none⟩=some (.int .i64 k):=fun y=>y.h.cell ck;refine wp_region_rx (W:=w1) (by kernel_rfl) (by kernel_rfl) (Ext.refl _) ?_
    repeat (go_big_quiet_step (fail))
    refine wpQuiet_nil ?_;rintro w4 ⟨⟨_,hx4⟩,rfl⟩;have R4:=zh ((zu R1).ext hx4);have d9:=hx4.cell c9;obtain⟨_,_,_,_,_,zf4,_⟩:=(zu R4).callAt (zu HK);have R5:=zh ((zu R4).setCp (m1.cp+1));rw[show ((m1.cp+1:Nat):Int)=(m1.cp:Int)+1 by omega] at R5;obtain⟨f0,f1,f2,f3,f4⟩:=(zu HB).c (zu R5);clear hx4 y7 y9 yk c7 c9 ck zf
    go_wp2_with (first
     | (have G:=zu R5;clear G;go_at_call 18;refine Calls.mono (zu HAd _ _ _ _ (zu R5)) ?_;rintro e w7 ⟨rfl,hr⟩;have R7:=zh hr;clear hr R5))
    go_end0
    exact⟨rfl,RGAns.on (zu HF) (zu R7)⟩
 ·rw[if_neg hk0] at e
  cases e
end
end Go.Proofs.YtjnpehohialmbaaGreat
