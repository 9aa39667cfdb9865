/- The document's maker: statements that hold no others,and rows of them. -/
import Derived.Laws.AppendOwnNone
import Derived.Test.YtdnclahaejlehaaGreatZl2
import Derived.Test.YtdnclahaejlehaaGreatZk23
set_option linter.unusedSimpArgs false
set_option linter.unusedVariables false
set_option maxRecDepth 10000
set_option maxHeartbeats 2000000
namespace Go.Proofs.YtdnclahaejlehaaGreat
open Go.RowKit
section
variable {g:Nat} {w w0 w1 w' w2:World} {h:RHd} {sl cl:List Int} {d d':RG} {ka ca ba na:Option Addr} {kc cc bc nc:Nat} {nd:PN→RG→Option RG}
theorem node_let (I:zM g h sl cl nd) (P:NdP nd) {o n:Int} {s:ByteArray} {l:List PN} {v:Value} (e:rLet nd sl l d=some d') (ho:d.ok=true) (hl:l.length≤1000000) (st:RS g w h sl cl d ka kc ca cc ba bc na nc) (hr:RepN w (fun b=>b < g) ⟨1,o,s,n,l⟩ v):Calls Tryz.prog 22 #[.pointer (some ⟨g,0,none⟩),v] w (zn g w h sl cl d' ba na):=by
 rw[RepN] at hr;obtain⟨a,cap,rfl,hcap,hrl⟩:=hr;obtain⟨A0,BX,F0⟩:=st.box 1 o s n (.slice a l.length cap);have hrb:RepNL (w.alloc (nodO 1 o s n (.slice a l.length cap))) (fun b=>b < g) l a:=RepNL.to (fun b hb=>⟨hb,F0.low b hb⟩) _ a hrl;obtain⟨m1,e1,e⟩:=zc e;obtain⟨k,ek,e⟩:=zc e;obtain⟨e,hok⟩:=zd e;subst e;have o1:=ze ((zq P l d m1 e1).2 ho);have H0:=zh (fun (W:World) (x:za g (w.alloc (nodO 1 o s n (.slice a l.length cap))) h sl cl d ba na W)=>zR I P l e1 ho hl a cap x hrb);have H1:=zh (fun (W:World) (x:za g (w.alloc (nodO 1 o s n (.slice a l.length cap))) h sl cl m1 ba na W)=>qK x (by omega) k ek)
 have H2:=zh (fun (W:World) (x:za g (w.alloc (nodO 1 o s n (.slice a l.length cap))) h sl cl ({ m1 with sp:=m1.sp+1 }:RG) ba na W)=>zw x (by show m1.code.length≤90000;omega) 3 k 0);have R0:=zh A0;have HB:=zh BX;have HF:=zh F0;obtain⟨b0,b1,b2,b3,b4⟩:=BX.c A0;clear A0 BX F0 hrb hrl st I P e e1 ek o1 hok ho
 go_enter Tryz.func22,Tryz.ntmps22
 go_wp2_with (first
  | (have G:=zu R0;clear G;go_at_call 46;refine Calls.mono (zu H0 _ (zu R0)) ?_;rintro e w1 ⟨rfl,hr⟩;have R1:=zh hr;clear hr R0;clear b0 b1 b2 b3 b4;obtain⟨b0,b1,b2,b3,b4⟩:=(zu HB).c (zu R1))
  | (have G:=zu R1;clear G;go_at_call 47;refine Calls.mono (zu H1 _ (zu R1)) ?_;rintro e w2 ⟨rfl,hr⟩;have R2:=zh hr;clear hr R1;clear b0 b1 b2 b3 b4;obtain⟨b0,b1,b2,b3,b4⟩:=(zu HB).c (zu R2))
  | (have G:=zu R2;clear G;go_at_call 24;refine Calls.mono (zu H2 _ (zu R2)) ?_;rintro e w3 ⟨rfl,hr⟩;have R3:=zh hr;clear hr R2;clear b0 b1 b2 b3 b4;obtain⟨b0,b1,b2,b3,b4⟩:=(zu HB).c (zu R3)))
 go_end0
 exact⟨rfl,za.on (zu HF) (zu R3)⟩
theorem node_set (I:zM g h sl cl nd) (P:NdP nd) {o n:Int} {s:ByteArray} {l:List PN} {v:Value} (e:rSet nd sl l d=some d') (ho:d.ok=true) (hl:l.length≤1000000) (st:RS g w h sl cl d ka kc ca cc ba bc na nc) (hr:RepN w (fun b=>b < g) ⟨2,o,s,n,l⟩ v):Calls Tryz.prog 22 #[.pointer (some ⟨g,0,none⟩),v] w (zn g w h sl cl d' ba na):=by
 rw[RepN] at hr;obtain⟨a,cap,rfl,hcap,hrl⟩:=hr;obtain⟨A0,BX,F0⟩:=st.box 2 o s n (.slice a l.length cap);have hrb:RepNL (w.alloc (nodO 2 o s n (.slice a l.length cap))) (fun b=>b < g) l a:=RepNL.to (fun b hb=>⟨hb,F0.low b hb⟩) _ a hrl;obtain⟨k,ek,e⟩:=zc e;obtain⟨m0,e0,e⟩:=zc e;obtain⟨e0,ok0⟩:=zd e0;subst e0;obtain⟨m1,e1,e⟩:=zc e;obtain⟨e,hok⟩:=zd e;subst e;have o0:=ze ho;have o1:=ze ((zq P l _ m1 e1).2 ok0);have H0:=zh (fun (W:World) (x:za g (w.alloc (nodO 2 o s n (.slice a l.length cap))) h sl cl d ba na W)=>qK x (by omega) k ek);have H1:=zh (fun (W:World) (x:za g (w.alloc (nodO 2 o s n (.slice a l.length cap))) h sl cl ({ d with sp:=d.sp+1 }:RG) ba na W)=>zR I P l e1 ok0 hl a cap x hrb)
 have H2:=zh (fun (W:World) (x:za g (w.alloc (nodO 2 o s n (.slice a l.length cap))) h sl cl m1 ba na W)=>zw x (by omega) 3 k 0);have R0:=zh A0;have HB:=zh BX;have HF:=zh F0;obtain⟨b0,b1,b2,b3,b4⟩:=BX.c A0;clear A0 BX F0 hrb hrl st I P e e1 ek o1 hok ho o0 ok0
 go_enter Tryz.func22,Tryz.ntmps22
 go_wp2_with (first
  | (have G:=zu R0;clear G;go_at_call 47;refine Calls.mono (zu H0 _ (zu R0)) ?_;rintro e w1 ⟨rfl,hr⟩;have R1:=zh hr;clear hr R0;clear b0 b1 b2 b3 b4;obtain⟨b0,b1,b2,b3,b4⟩:=(zu HB).c (zu R1))
  | (have G:=zu R1;clear G;go_at_call 46;refine Calls.mono (zu H1 _ (zu R1)) ?_;rintro e w2 ⟨rfl,hr⟩;have R2:=zh hr;clear hr R1;clear b0 b1 b2 b3 b4;obtain⟨b0,b1,b2,b3,b4⟩:=(zu HB).c (zu R2))
  | (have G:=zu R2;clear G;go_at_call 24;refine Calls.mono (zu H2 _ (zu R2)) ?_;rintro e w3 ⟨rfl,hr⟩;have R3:=zh hr;clear hr R2;clear b0 b1 b2 b3 b4;obtain⟨b0,b1,b2,b3,b4⟩:=(zu HB).c (zu R3)))
 go_end0
 exact⟨rfl,za.on (zu HF) (zu R3)⟩
theorem node_print (I:zM g h sl cl nd) (P:NdP nd) {o n:Int} {s:ByteArray} {l:List PN} {v:Value} (e:qF nd 11 0 l d=some d') (ho:d.ok=true) (hl:l.length≤1000000) (st:RS g w h sl cl d ka kc ca cc ba bc na nc) (hr:RepN w (fun b=>b < g) ⟨8,o,s,n,l⟩ v):Calls Tryz.prog 22 #[.pointer (some ⟨g,0,none⟩),v] w (zn g w h sl cl d' ba na):=by
 rw[RepN] at hr;obtain⟨a,cap,rfl,hcap,hrl⟩:=hr;obtain⟨A0,BX,F0⟩:=st.box 8 o s n (.slice a l.length cap);have hrb:RepNL (w.alloc (nodO 8 o s n (.slice a l.length cap))) (fun b=>b < g) l a:=RepNL.to (fun b hb=>⟨hb,F0.low b hb⟩) _ a hrl;obtain⟨m1,e1,e⟩:=zc e;obtain⟨e,hok⟩:=zd e;subst e;have o1:=ze ((zq P l d m1 e1).2 ho);have H0:=zh (fun (W:World) (x:za g (w.alloc (nodO 8 o s n (.slice a l.length cap))) h sl cl d ba na W)=>zR I P l e1 ho hl a cap x hrb);have H1:=zh (fun (W:World) (x:za g (w.alloc (nodO 8 o s n (.slice a l.length cap))) h sl cl m1 ba na W)=>zw x (by omega) 11 0 0);have R0:=zh A0;have HB:=zh BX;have HF:=zh F0;obtain⟨b0,b1,b2,b3,b4⟩:=BX.c A0;clear A0 BX F0 hrb hrl st I P e e1 o1 hok ho
 go_enter Tryz.func22,Tryz.ntmps22
 go_wp2_with (first
  | (have G:=zu R0;clear G;go_at_call 46;refine Calls.mono (zu H0 _ (zu R0)) ?_;rintro e w1 ⟨rfl,hr⟩;have R1:=zh hr;clear hr R0;clear b0 b1 b2 b3 b4;obtain⟨b0,b1,b2,b3,b4⟩:=(zu HB).c (zu R1))
  | (have G:=zu R1;clear G;go_at_call 24;refine Calls.mono (zu H1 _ (zu R1)) ?_;rintro e w2 ⟨rfl,hr⟩;have R2:=zh hr;clear hr R1;clear b0 b1 b2 b3 b4;obtain⟨b0,b1,b2,b3,b4⟩:=(zu HB).c (zu R2)))
 go_end0
 exact⟨rfl,za.on (zu HF) (zu R2)⟩
theorem node_block (I:zM g h sl cl nd) (P:NdP nd) {o n:Int} {s:ByteArray} {l:List PN} {v:Value} (e:zD nd l d=some d') (ho:d.ok=true) (hl:l.length≤1000000) (st:RS g w h sl cl d ka kc ca cc ba bc na nc) (hr:RepN w (fun b=>b < g) ⟨10,o,s,n,l⟩ v):Calls Tryz.prog 22 #[.pointer (some ⟨g,0,none⟩),v] w (zn g w h sl cl d' ba na):=by
 rw[RepN] at hr;obtain⟨a,cap,rfl,hcap,hrl⟩:=hr;obtain⟨A0,BX,F0⟩:=st.box 10 o s n (.slice a l.length cap);have hrb:RepNL (w.alloc (nodO 10 o s n (.slice a l.length cap))) (fun b=>b < g) l a:=RepNL.to (fun b hb=>⟨hb,F0.low b hb⟩) _ a hrl;have H0:=zh (fun (W:World) (x:za g (w.alloc (nodO 10 o s n (.slice a l.length cap))) h sl cl d ba na W)=>zR I P l e ho hl a cap x hrb);have R0:=zh A0;have HB:=zh BX;have HF:=zh F0;obtain⟨b0,b1,b2,b3,b4⟩:=BX.c A0;clear A0 BX F0 hrb hrl st I P e ho
 go_enter Tryz.func22,Tryz.ntmps22
 go_wp2_with (first
  | (have G:=zu R0;clear G;go_at_call 46;refine Calls.mono (zu H0 _ (zu R0)) ?_;rintro e w1 ⟨rfl,hr⟩;have R1:=zh hr;clear hr R0;clear b0 b1 b2 b3 b4;obtain⟨b0,b1,b2,b3,b4⟩:=(zu HB).c (zu R1)))
 go_end0
 exact⟨rfl,za.on (zu HF) (zu R1)⟩
theorem node_ret1 (I:zM g h sl cl nd) (P:NdP nd) {o n:Int} {s:ByteArray} {l:List PN} {v:Value} (e:rRet nd l d=some d') (ho:d.ok=true) (hl:l.length≤1000000) (hne:l≠[]) (st:RS g w h sl cl d ka kc ca cc ba bc na nc) (hr:RepN w (fun b=>b < g) ⟨7,o,s,n,l⟩ v):Calls Tryz.prog 22 #[.pointer (some ⟨g,0,none⟩),v] w (zn g w h sl cl d' ba na):=by
 rw[RepN] at hr;obtain⟨a,cap,rfl,hcap,hrl⟩:=hr;obtain⟨A0,BX,F0⟩:=st.box 7 o s n (.slice a l.length cap);have hrb:RepNL (w.alloc (nodO 7 o s n (.slice a l.length cap))) (fun b=>b < g) l a:=RepNL.to (fun b hb=>⟨hb,F0.low b hb⟩) _ a hrl;have hz:((l.length:Int) == 0)=false:=by
  have:l.length≠0:=fun h=>hne (List.eq_nil_of_length_eq_zero h);simp[hne]
 obtain⟨m0,e0,e⟩:=zc e;rw[if_neg hne] at e0;obtain⟨e0,ok0⟩:=zd e0;subst e0;obtain⟨m1,e1,e⟩:=zc e;obtain⟨e,hok⟩:=zd e;subst e;have o1:=ze ((zq P l d m1 e1).2 ho);have H0:=zh (fun (W:World) (x:za g (w.alloc (nodO 7 o s n (.slice a l.length cap))) h sl cl d ba na W)=>zR I P l e1 ho hl a cap x hrb);have H1:=zh (fun (W:World) (x:za g (w.alloc (nodO 7 o s n (.slice a l.length cap))) h sl cl m1 ba na W)=>zw x (by omega) 10 0 0);have R0:=zh A0;have HB:=zh BX;have HF:=zh F0;obtain⟨b0,b1,b2,b3,b4⟩:=BX.c A0;clear A0 BX F0 hrb hrl st I P e e1 o1 hok ho ok0 hne
 go_enter Tryz.func22,Tryz.ntmps22
 go_wp2_with (first
  | (have G:=zu R0;clear G;go_at_call 46;refine Calls.mono (zu H0 _ (zu R0)) ?_;rintro e w1 ⟨rfl,hr⟩;have R1:=zh hr;clear hr R0;clear b0 b1 b2 b3 b4;obtain⟨b0,b1,b2,b3,b4⟩:=(zu HB).c (zu R1))
  | (have G:=zu R1;clear G;go_at_call 24;refine Calls.mono (zu H1 _ (zu R1)) ?_;rintro e w2 ⟨rfl,hr⟩;have R2:=zh hr;clear hr R1;clear b0 b1 b2 b3 b4;obtain⟨b0,b1,b2,b3,b4⟩:=(zu HB).c (zu R2)))
 go_end0
 exact⟨rfl,za.on (zu HF) (zu R2)⟩
end
section
variable {g:Nat} {w w0 w1 w' w2:World} {h:RHd} {sl cl:List Int} {d d':RG} {ka ca ba na:Option Addr} {kc cc bc nc:Nat} {nd:PN→RG→Option RG}
theorem num1 (W:World) (j:Nat):zI (W.alloc (.cells #[.int .i64 (j:Int)] 3 (0,0))) [j] (some ⟨W.heap.size,0,none⟩):=by
 refine Or.inr ⟨W.heap.size,_,_,rfl,Go.heap_alloc_new W _,fun i x hx => ?_⟩;cases i with
 | zero=>simp at hx;subst hx;rfl
 | succ i=>simp at hx
theorem land1 (x:za g w0 h sl cl d ba na w) (hb:d.code.length≤90000) (j:Nat) (hj:j < d.code.length):Calls Tryz.prog 48 #[.pointer (some ⟨g,0,none⟩),.slice (some ⟨w.heap.size,0,none⟩) 1 1] (w.alloc (.cells #[.int .i64 (j:Int)] 3 (0,0))) (zn g w0 h sl cl (d.land [j]) ba na) :=
 rland_k (x.ext (Ext.alloc w _)) hb [j] _ 1 (fun i hi=>by simp at hi;omega) (num1 w j) (by simp)
theorem node_if2 (I:zM g h sl cl nd) (P:NdP nd) {o n:Int} {s:ByteArray} {p q:PN} {v:Value} (e:rIf nd [p,q] d=some d') (ho:d.ok=true) (st:RS g w h sl cl d ka kc ca cc ba bc na nc) (hr:RepN w (fun b=>b < g) ⟨3,o,s,n,[p,q]⟩ v):Calls Tryz.prog 22 #[.pointer (some ⟨g,0,none⟩),v] w (zn g w h sl cl d' ba na):=by
 rw[RepN] at hr;obtain⟨a,cap,rfl,hcap,hrl⟩:=hr;obtain⟨A0,BX,F0⟩:=st.box 3 o s n (.slice a 2 cap);have hrb:RepNL (w.alloc (nodO 3 o s n (.slice a 2 cap))) (fun b=>b < g) [p,q] a:=RepNL.to (fun b hb=>⟨hb,F0.low b hb⟩) _ a hrl;obtain⟨kb,ko,p0,p1,p2,p3,p4,q0,q1,q2,q3,q4,rfl,KP,KQ⟩:=kids2 hrb;obtain⟨m1,e1,e⟩:=zc e;obtain⟨ma,ea,e⟩:=zc e;obtain⟨ea,oka⟩:=zd ea;subst ea;obtain⟨m2,e2,e⟩:=zc e;obtain⟨e,hok⟩:=zd e;subst e;have o1:=ze ((P p d m1 e1).2 ho);have o2:=ze ((P q _ m2 e2).2 oka);have l2:=(P q _ m2 e2).1;rw[zj] at l2;have H0:=zh (fun (W:World) (x:za g (w.alloc (nodO 3 o s n (.slice (some ⟨kb,ko,none⟩) 2 cap))) h sl cl d ba na W)=>I.k e1 ho x (KP.at x).rep)
 have H1:=zh (fun (W:World) (x:za g (w.alloc (nodO 3 o s n (.slice (some ⟨kb,ko,none⟩) 2 cap))) h sl cl m1 ba na W)=>zw x (by omega) 8 0 0);have H2:=zh (fun (W:World) (x:za g (w.alloc (nodO 3 o s n (.slice (some ⟨kb,ko,none⟩) 2 cap))) h sl cl (m1.add 8 0 0) ba na W)=>I.k e2 oka x (KQ.at x).rep);have H3:=zh (fun (W:World) (x:za g (w.alloc (nodO 3 o s n (.slice (some ⟨kb,ko,none⟩) 2 cap))) h sl cl m2 ba na W)=>land1 x (by omega) m1.code.length (by omega));have R0:=zh A0;have HB:=zh BX;have HF:=zh F0;obtain⟨b0,b1,b2,b3,b4⟩:=BX.c A0;have HK0:=zh KP;have HK1:=zh KQ;obtain⟨k0,k1,k2,k3,k4⟩:=KP.c;clear KP KQ;clear A0 BX F0 hrb hrl st I P e e1 e2 o1 o2 l2 hok ho oka
 go_enter Tryz.func22,Tryz.ntmps22
 go_wp2_with (first
  | (have G:=zu R0;clear G;go_at_call 22;refine Calls.mono (zu H0 _ (zu R0)) ?_;rintro e w1 ⟨rfl,hr⟩;have R1:=zh hr;clear hr R0;clear b0 b1 b2 b3 b4;obtain⟨b0,b1,b2,b3,b4⟩:=(zu HB).c (zu R1);clear k0 k1 k2 k3 k4;have k0:=True.intro;have k1:=True.intro;have k2:=True.intro;have k3:=True.intro;have k4:=True.intro)
  | (have G:=zu R1;clear G;go_at_call 24;refine Calls.mono (zu H1 _ (zu R1)) ?_;rintro e w2 ⟨rfl,hr⟩;have R2:=zh hr;clear hr R1;clear b0 b1 b2 b3 b4;obtain⟨b0,b1,b2,b3,b4⟩:=(zu HB).c (zu R2);clear k0 k1 k2 k3 k4;obtain⟨k0,k1,k2,k3,k4⟩:=((zu HK1).at (zu R2)).c)
  | (have G:=zu R2;clear G;go_at_call 22;refine Calls.mono (zu H2 _ (zu R2)) ?_;rintro e w3 ⟨rfl,hr⟩;have R3:=zh hr;clear hr R2;clear b0 b1 b2 b3 b4;obtain⟨b0,b1,b2,b3,b4⟩:=(zu HB).c (zu R3);clear k0 k1 k2 k3 k4;have k0:=True.intro;have k1:=True.intro;have k2:=True.intro;have k3:=True.intro;have k4:=True.intro)
  | (have G:=zu R3;clear G;go_at_call 48;refine Calls.mono (zu H3 _ (zu R3)) ?_;rintro e w4 ⟨rfl,hr⟩;have R4:=zh hr;clear hr R3;clear b0 b1 b2 b3 b4;obtain⟨b0,b1,b2,b3,b4⟩:=(zu HB).c (zu R4);clear k0 k1 k2 k3 k4;have k0:=True.intro;have k1:=True.intro;have k2:=True.intro;have k3:=True.intro;have k4:=True.intro))
 refine bodyPost_ret (v:=.tuple #[]) (by simp[results,Tryz.results22]) rfl ?_;exact⟨rfl,za.on (zu HF) (zu R4)⟩
theorem node_if3 (I:zM g h sl cl nd) (P:NdP nd) {o n:Int} {s:ByteArray} {p q r:PN} {v:Value} (e:rIf nd [p,q,r] d=some d') (ho:d.ok=true) (st:RS g w h sl cl d ka kc ca cc ba bc na nc) (hr:RepN w (fun b=>b < g) ⟨3,o,s,n,[p,q,r]⟩ v):Calls Tryz.prog 22 #[.pointer (some ⟨g,0,none⟩),v] w (zn g w h sl cl d' ba na):=by
 rw[RepN] at hr;obtain⟨a,cap,rfl,hcap,hrl⟩:=hr;obtain⟨A0,BX,F0⟩:=st.box 3 o s n (.slice a 3 cap);have hrb:RepNL (w.alloc (nodO 3 o s n (.slice a 3 cap))) (fun b=>b < g) [p,q,r] a:=RepNL.to (fun b hb=>⟨hb,F0.low b hb⟩) _ a hrl;obtain⟨kb,ko,p0,p1,p2,p3,p4,q0,q1,q2,q3,q4,r0,r1,r2,r3,r4,rfl,KP,KQ,KR⟩:=kids3 hrb;obtain⟨m1,e1,e⟩:=zc e;obtain⟨ma,ea,e⟩:=zc e;obtain⟨ea,oka⟩:=zd ea;subst ea;obtain⟨m2,e2,e⟩:=zc e;obtain⟨mb,eb,e⟩:=zc e;obtain⟨eb,okb⟩:=zd eb;subst eb;obtain⟨m3,e3,e⟩:=zc e;obtain⟨e,hok⟩:=zd e;subst e;have o1:=ze ((P p d m1 e1).2 ho);have o2:=ze ((P q _ m2 e2).2 oka);have o3:=ze ((P r _ m3 e3).2 okb);have l2:=(P q _ m2 e2).1;have l3:=(P r _ m3 e3).1;rw[zj] at l2;rw[zA,zj] at l3
 have H0:=zh (fun (W:World) (x:za g (w.alloc (nodO 3 o s n (.slice (some ⟨kb,ko,none⟩) 3 cap))) h sl cl d ba na W)=>I.k e1 ho x (KP.at x).rep);have H1:=zh (fun (W:World) (x:za g (w.alloc (nodO 3 o s n (.slice (some ⟨kb,ko,none⟩) 3 cap))) h sl cl m1 ba na W)=>zw x (by omega) 8 0 0);have H2:=zh (fun (W:World) (x:za g (w.alloc (nodO 3 o s n (.slice (some ⟨kb,ko,none⟩) 3 cap))) h sl cl (m1.add 8 0 0) ba na W)=>I.k e2 oka x (KQ.at x).rep);have H3:=zh (fun (W:World) (x:za g (w.alloc (nodO 3 o s n (.slice (some ⟨kb,ko,none⟩) 3 cap))) h sl cl m2 ba na W)=>zw x (by omega) 7 0 0);have H4:=zh (fun (W:World) (x:za g (w.alloc (nodO 3 o s n (.slice (some ⟨kb,ko,none⟩) 3 cap))) h sl cl (m2.add 7 0 0) ba na W)=>land1 x (by rw[zj];omega) m1.code.length (by rw[zj];omega))
 have H5:=zh (fun (W:World) (x:za g (w.alloc (nodO 3 o s n (.slice (some ⟨kb,ko,none⟩) 3 cap))) h sl cl ((m2.add 7 0 0).land [m1.code.length]) ba na W)=>I.k e3 okb x (KR.at x).rep);have H6:=zh (fun (W:World) (x:za g (w.alloc (nodO 3 o s n (.slice (some ⟨kb,ko,none⟩) 3 cap))) h sl cl m3 ba na W)=>land1 x (by omega) m2.code.length (by omega));have R0:=zh A0;have HB:=zh BX;have HF:=zh F0;obtain⟨b0,b1,b2,b3,b4⟩:=BX.c A0;have HK0:=zh KP;have HK1:=zh KQ;have HK2:=zh KR;obtain⟨k0,k1,k2,k3,k4⟩:=KP.c;clear KP KQ KR;clear A0 BX F0 hrb hrl st I P e e1 e2 e3 o1 o2 o3 l2 l3 hok ho oka okb
 go_enter Tryz.func22,Tryz.ntmps22
 go_wp2_with (first
  | (have G:=zu R0;clear G;go_at_call 22;refine Calls.mono (zu H0 _ (zu R0)) ?_;rintro e w1 ⟨rfl,hr⟩;have R1:=zh hr;clear hr R0;clear b0 b1 b2 b3 b4;obtain⟨b0,b1,b2,b3,b4⟩:=(zu HB).c (zu R1);clear k0 k1 k2 k3 k4;have k0:=True.intro;have k1:=True.intro;have k2:=True.intro;have k3:=True.intro;have k4:=True.intro)
  | (have G:=zu R1;clear G;go_at_call 24;refine Calls.mono (zu H1 _ (zu R1)) ?_;rintro e w2 ⟨rfl,hr⟩;have R2:=zh hr;clear hr R1;clear b0 b1 b2 b3 b4;obtain⟨b0,b1,b2,b3,b4⟩:=(zu HB).c (zu R2);clear k0 k1 k2 k3 k4;obtain⟨k0,k1,k2,k3,k4⟩:=((zu HK1).at (zu R2)).c)
  | (have G:=zu R2;clear G;go_at_call 22;refine Calls.mono (zu H2 _ (zu R2)) ?_;rintro e w3 ⟨rfl,hr⟩;have R3:=zh hr;clear hr R2;clear b0 b1 b2 b3 b4;obtain⟨b0,b1,b2,b3,b4⟩:=(zu HB).c (zu R3);clear k0 k1 k2 k3 k4;have k0:=True.intro;have k1:=True.intro;have k2:=True.intro;have k3:=True.intro;have k4:=True.intro)
  | (have G:=zu R3;clear G;go_at_call 24;refine Calls.mono (zu H3 _ (zu R3)) ?_;rintro e w4 ⟨rfl,hr⟩;have R4:=zh hr;clear hr R3;clear b0 b1 b2 b3 b4;obtain⟨b0,b1,b2,b3,b4⟩:=(zu HB).c (zu R4);clear k0 k1 k2 k3 k4;have k0:=True.intro;have k1:=True.intro;have k2:=True.intro;have k3:=True.intro;have k4:=True.intro)
  | (have G:=zu R4;clear G;go_at_call 48;refine Calls.mono (zu H4 _ (zu R4)) ?_;rintro e w5 ⟨rfl,hr⟩;have R5:=zh hr;clear hr R4;clear b0 b1 b2 b3 b4;obtain⟨b0,b1,b2,b3,b4⟩:=(zu HB).c (zu R5);clear k0 k1 k2 k3 k4;obtain⟨k0,k1,k2,k3,k4⟩:=((zu HK2).at (zu R5)).c)
  | (have G:=zu R5;clear G;go_at_call 22;refine Calls.mono (zu H5 _ (zu R5)) ?_;rintro e w6 ⟨rfl,hr⟩;have R6:=zh hr;clear hr R5;clear b0 b1 b2 b3 b4;obtain⟨b0,b1,b2,b3,b4⟩:=(zu HB).c (zu R6);clear k0 k1 k2 k3 k4;have k0:=True.intro;have k1:=True.intro;have k2:=True.intro;have k3:=True.intro;have k4:=True.intro)
  | (have G:=zu R6;clear G;go_at_call 48;refine Calls.mono (zu H6 _ (zu R6)) ?_;rintro e w7 ⟨rfl,hr⟩;have R7:=zh hr;clear hr R6;clear b0 b1 b2 b3 b4;obtain⟨b0,b1,b2,b3,b4⟩:=(zu HB).c (zu R7);clear k0 k1 k2 k3 k4;have k0:=True.intro;have k1:=True.intro;have k2:=True.intro;have k3:=True.intro;have k4:=True.intro))
 go_end0
 exact⟨rfl,za.on (zu HF) (zu R7)⟩
end
section
variable {g:Nat} {w w0 w1 w' w2:World} {h:RHd} {sl cl:List Int} {d d':RG} {ka ca ba na:Option Addr} {kc cc bc nc:Nat} {nd:PN→RG→Option RG}
theorem rint_k (n:Int) (W:World):Calls Tryz.prog 74 #[.int .i64 n] W fun e w'=>e = .returned (gcV (some n))∧Ext W w':=by
 go_enter Tryz.func74,Tryz.ntmps74
 go_wp2_with fail
 first
  | (go_ret;exact⟨rfl,Ext.refl _⟩)
  | exact bodyPost_ret (v:=gcV (some n)) (by simp[results,Tryz.results74,go_sem]) rfl ⟨rfl,Ext.alloc _ _⟩
theorem expr_int (I:zM g h sl cl nd) (P:NdP nd) {o n:Int} {s:ByteArray} {l:List PN} {v:Value} (e:rG (d.cst (some n))=some d') (ho:d.ok=true) (hl:l.length≤1000000) (st:RS g w h sl cl d ka kc ca cc ba bc na nc) (hr:RepN w (fun b=>b < g) ⟨15,o,s,n,l⟩ v):Calls Tryz.prog 50 #[.pointer (some ⟨g,0,none⟩),v] w (zn g w h sl cl d' ba na):=by
 rw[RepN] at hr;obtain⟨a,cap,rfl,hcap,hrl⟩:=hr;obtain⟨A0,BX,F0⟩:=st.box 15 o s n (.slice a l.length cap);have hrb:RepNL (w.alloc (nodO 15 o s n (.slice a l.length cap))) (fun b=>b < g) l a:=RepNL.to (fun b hb=>⟨hb,F0.low b hb⟩) _ a hrl;obtain⟨e,hok⟩:=zd e;subst e;have o1:=ze ho;have H0:=zh (fun (W:World) (x:za g (w.alloc (nodO 15 o s n (.slice a l.length cap))) h sl cl d ba na W)=>rint_k n W);have H1:=zh (fun (W:World) (x:za g (w.alloc (nodO 15 o s n (.slice a l.length cap))) h sl cl d ba na W)=>qv (some n) x (by omega) (by omega));have R0:=zh A0;have HB:=zh BX;have HF:=zh F0;obtain⟨b0,b1,b2,b3,b4⟩:=BX.c A0;clear A0 BX F0 hrb hrl st I P e o1 hok ho
 go_enter Tryz.func50,Tryz.ntmps50
 go_wp2_with (first
  | (go_at_call 74;refine Calls.mono (zu H0 _ (zu R0)) ?_;rintro e w1 ⟨rfl,hx⟩;have R1:=zh ((zu R0).ext hx);clear hx R0;clear b0 b1 b2 b3 b4;obtain⟨b0,b1,b2,b3,b4⟩:=(zu HB).c (zu R1))
  | (have G:=zu R1;clear G;go_at_call 23;refine Calls.mono (zu H1 _ (zu R1)) ?_;rintro e w2 ⟨rfl,hr⟩;have R2:=zh hr;clear hr R1;clear b0 b1 b2 b3 b4;obtain⟨b0,b1,b2,b3,b4⟩:=(zu HB).c (zu R2)))
 go_end0
 exact⟨rfl,za.on (zu HF) (zu R2)⟩
theorem expr_var (I:zM g h sl cl nd) (P:NdP nd) {o n:Int} {s:ByteArray} {l:List PN} {v:Value} (e:rVar sl d=some d') (ho:d.ok=true) (hl:l.length≤1000000) (st:RS g w h sl cl d ka kc ca cc ba bc na nc) (hr:RepN w (fun b=>b < g) ⟨19,o,s,n,l⟩ v):Calls Tryz.prog 50 #[.pointer (some ⟨g,0,none⟩),v] w (zn g w h sl cl d' ba na):=by
 rw[RepN] at hr;obtain⟨a,cap,rfl,hcap,hrl⟩:=hr;obtain⟨A0,BX,F0⟩:=st.box 19 o s n (.slice a l.length cap);have hrb:RepNL (w.alloc (nodO 19 o s n (.slice a l.length cap))) (fun b=>b < g) l a:=RepNL.to (fun b hb=>⟨hb,F0.low b hb⟩) _ a hrl;obtain⟨k,ek,e⟩:=zc e;obtain⟨e,hok⟩:=zd e;subst e;have o1:=ze ho;have H0:=zh (fun (W:World) (x:za g (w.alloc (nodO 19 o s n (.slice a l.length cap))) h sl cl d ba na W)=>qK x (by omega) k ek);have H1:=zh (fun (W:World) (x:za g (w.alloc (nodO 19 o s n (.slice a l.length cap))) h sl cl ({ d with sp:=d.sp+1 }:RG) ba na W)=>zw x (by show d.code.length≤90000;omega) 2 k 0);have R0:=zh A0;have HB:=zh BX;have HF:=zh F0;obtain⟨b0,b1,b2,b3,b4⟩:=BX.c A0;clear A0 BX F0 hrb hrl st I P e o1 hok ho ek
 go_enter Tryz.func50,Tryz.ntmps50
 go_wp2_with (first
  | (have G:=zu R0;clear G;go_at_call 47;refine Calls.mono (zu H0 _ (zu R0)) ?_;rintro e w1 ⟨rfl,hr⟩;have R1:=zh hr;clear hr R0;clear b0 b1 b2 b3 b4;obtain⟨b0,b1,b2,b3,b4⟩:=(zu HB).c (zu R1))
  | (have G:=zu R1;clear G;go_at_call 24;refine Calls.mono (zu H1 _ (zu R1)) ?_;rintro e w2 ⟨rfl,hr⟩;have R2:=zh hr;clear hr R1;clear b0 b1 b2 b3 b4;obtain⟨b0,b1,b2,b3,b4⟩:=(zu HB).c (zu R2)))
 go_end0
 exact⟨rfl,za.on (zu HF) (zu R2)⟩
theorem expr_bin (I:zM g h sl cl nd) (P:NdP nd) {o n:Int} {s:ByteArray} {l:List PN} {v:Value} (e:qF nd 5 o l d=some d') (ho:d.ok=true) (hl:l.length≤1000000) (st:RS g w h sl cl d ka kc ca cc ba bc na nc) (hr:RepN w (fun b=>b < g) ⟨11,o,s,n,l⟩ v):Calls Tryz.prog 50 #[.pointer (some ⟨g,0,none⟩),v] w (zn g w h sl cl d' ba na):=by
 rw[RepN] at hr;obtain⟨a,cap,rfl,hcap,hrl⟩:=hr;obtain⟨A0,BX,F0⟩:=st.box 11 o s n (.slice a l.length cap);have hrb:RepNL (w.alloc (nodO 11 o s n (.slice a l.length cap))) (fun b=>b < g) l a:=RepNL.to (fun b hb=>⟨hb,F0.low b hb⟩) _ a hrl;obtain⟨m1,e1,e⟩:=zc e;obtain⟨e,hok⟩:=zd e;subst e;have o1:=ze ((zq P l d m1 e1).2 ho);have H0:=zh (fun (W:World) (x:za g (w.alloc (nodO 11 o s n (.slice a l.length cap))) h sl cl d ba na W)=>zR I P l e1 ho hl a cap x hrb);have H1:=zh (fun (W:World) (x:za g (w.alloc (nodO 11 o s n (.slice a l.length cap))) h sl cl m1 ba na W)=>zw x (by omega) 5 o 0);have R0:=zh A0;have HB:=zh BX;have HF:=zh F0;obtain⟨b0,b1,b2,b3,b4⟩:=BX.c A0;clear A0 BX F0 hrb hrl st I P e e1 o1 hok ho
 go_enter Tryz.func50,Tryz.ntmps50
 go_wp2_with (first
  | (have G:=zu R0;clear G;go_at_call 46;refine Calls.mono (zu H0 _ (zu R0)) ?_;rintro e w1 ⟨rfl,hr⟩;have R1:=zh hr;clear hr R0;clear b0 b1 b2 b3 b4;obtain⟨b0,b1,b2,b3,b4⟩:=(zu HB).c (zu R1))
  | (have G:=zu R1;clear G;go_at_call 24;refine Calls.mono (zu H1 _ (zu R1)) ?_;rintro e w2 ⟨rfl,hr⟩;have R2:=zh hr;clear hr R1;clear b0 b1 b2 b3 b4;obtain⟨b0,b1,b2,b3,b4⟩:=(zu HB).c (zu R2)))
 go_end0
 exact⟨rfl,za.on (zu HF) (zu R2)⟩
end
section
variable {g:Nat} {w w0 w1 w' w2:World} {h:RHd} {sl cl:List Int} {d d':RG} {ka ca ba na:Option Addr} {kc cc bc nc:Nat} {nd:PN→RG→Option RG}
theorem kept_ap {a b:Option Addr} {n c m e:Nat} (h:V.obk a=none∨V.obk a≠V.obk b):(Value.slice b n c).ownBlock=none∨(Value.slice b n c).ownBlock≠(Value.slice a m e).ownBlock:=by
 rw[zt,zt];rcases h with h | h
 ·rw[h]
  cases V.obk b with
  | none=>exact Or.inl rfl
  | some x=>exact Or.inr (fun e=>by cases e)
 ·exact Or.inr (fun e=>h e.symm)
theorem RS.pushB {wa w6:World} {g' cap' j:Nat} (x:RS g wa h sl cl d ka kc ca cc ba bc na nc) (ho:w6.ownsRow (g+1) 3 1 (.slice (some ⟨g',0,none⟩) (d.br.length+1) cap') (d.br.length+1) (nsI d.br++[.int .i64 (j:Int)])) (hgw:wa.grownBy w6 (Value.slice ba d.br.length bc).ownBlock) (hw:(Value.slice ba d.br.length bc).ownBlock=some g'∨wa.heap.size≤g') :
  RS g (w6.setCell ⟨g,12,none⟩ (.slice (some ⟨g',0,none⟩) (d.br.length+1) cap')) h sl cl { d with br:=d.br++[j] } ka kc ca cc (some ⟨g',0,none⟩) cap' na nc∧RF g ba na wa (w6.setCell ⟨g,12,none⟩ (.slice (some ⟨g',0,none⟩) (d.br.length+1) cap'))∧zl wa ba (some ⟨g',0,none⟩):=by
 have hg:=x.lt;have c1:=x.ok.kept hgw (own_twoM x.ok x.ob (by decide));have c2:=x.oc.kept hgw (own_twoM x.oc x.ob (by decide));have c3:=x.on.kept hgw (kept_ap x.ap);have hr:=row_growM x.ob hgw x.row;have hl:(d.br++[j]).length=d.br.length+1:=by simp
 rw[zt] at hw;refine⟨⟨?_,ownsRow_setCell_below c1 (Nat.lt_succ_self g) _,ownsRow_setCell_below c2 (Nat.lt_succ_self g) _,?_,ownsRow_setCell_below c3 (Nat.lt_succ_self g) _,?_,(zy x.ob hgw hg x.sl).to (fun b hb=>⟨hb,Below.heap_setCell _ _ _ _ (by show b≠g;omega)⟩),(zy x.ob hgw hg x.cl).to (fun b hb=>⟨hb,Below.heap_setCell _ _ _ _ (by show b≠g;omega)⟩)⟩,(RF.grow x.ob (Or.inr (Or.inr (Or.inl (zt _ _ _)))) hg hgw).set 12 _,?_⟩
 ·have:=row_set hr 12 (.slice (some ⟨g',0,none⟩) (d.br.length+1) cap')
  rw[hl];exact this
 ·show (w6.setCell _ _).ownsRow (g+1) 3 1 (.slice _ (d.br++[j]).length _) (d.br++[j]).length (nsI (d.br++[j]))
  rw[hl];unfold nsI;rw[List.map_append];exact ownsRow_setCell_below ho (Nat.lt_succ_self g) _
 ·refine Or.inr (fun e => ?_)
  rcases hw with hw | hw
  ·rcases x.ap with h1 | h1
   ·rw[h1] at hw;cases hw
   ·exact h1 (hw.trans e)
  ·have:=(x.on.lt g' ((zt _ _ _).trans e.symm)).2
   omega
 ·rcases hw with hw | hw
  ·exact Or.inl hw.symm
  ·exact Or.inr (Or.inr ⟨g',rfl,hw⟩)
theorem RS.pushN {wa w6:World} {g' cap' j:Nat} (x:RS g wa h sl cl d ka kc ca cc ba bc na nc) (ho:w6.ownsRow (g+1) 3 1 (.slice (some ⟨g',0,none⟩) (d.nx.length+1) cap') (d.nx.length+1) (nsI d.nx++[.int .i64 (j:Int)])) (hgw:wa.grownBy w6 (Value.slice na d.nx.length nc).ownBlock) (hw:(Value.slice na d.nx.length nc).ownBlock=some g'∨wa.heap.size≤g') :
  RS g (w6.setCell ⟨g,13,none⟩ (.slice (some ⟨g',0,none⟩) (d.nx.length+1) cap')) h sl cl { d with nx:=d.nx++[j] } ka kc ca cc ba bc (some ⟨g',0,none⟩) cap'∧RF g ba na wa (w6.setCell ⟨g,13,none⟩ (.slice (some ⟨g',0,none⟩) (d.nx.length+1) cap'))∧zl wa na (some ⟨g',0,none⟩):=by
 have hg:=x.lt;have hap:V.obk na=none∨V.obk na≠V.obk ba:=by
  cases hq:V.obk na with
  | none=>exact Or.inl rfl
  | some b =>
   refine Or.inr (fun e => ?_);rcases x.ap with h1 | h1
   ·rw[h1] at e;cases e
   ·exact h1 (e.symm.trans hq.symm)
 have c1:=x.ok.kept hgw (own_twoM x.ok x.on (by decide));have c2:=x.oc.kept hgw (own_twoM x.oc x.on (by decide));have c3:=x.ob.kept hgw (kept_ap hap);have hr:=row_growM x.on hgw x.row;have hl:(d.nx++[j]).length=d.nx.length+1:=by simp
 rw[zt] at hw;refine⟨⟨?_,ownsRow_setCell_below c1 (Nat.lt_succ_self g) _,ownsRow_setCell_below c2 (Nat.lt_succ_self g) _,ownsRow_setCell_below c3 (Nat.lt_succ_self g) _,?_,?_,(zy x.on hgw hg x.sl).to (fun b hb=>⟨hb,Below.heap_setCell _ _ _ _ (by show b≠g;omega)⟩),(zy x.on hgw hg x.cl).to (fun b hb=>⟨hb,Below.heap_setCell _ _ _ _ (by show b≠g;omega)⟩)⟩,(RF.grow x.on (Or.inr (Or.inr (Or.inr (zt _ _ _)))) hg hgw).set 13 _,?_⟩
 ·have:=row_set hr 13 (.slice (some ⟨g',0,none⟩) (d.nx.length+1) cap')
  rw[hl];exact this
 ·show (w6.setCell _ _).ownsRow (g+1) 3 1 (.slice _ (d.nx++[j]).length _) (d.nx++[j]).length (nsI (d.nx++[j]))
  rw[hl];unfold nsI;rw[List.map_append];exact ownsRow_setCell_below ho (Nat.lt_succ_self g) _
 ·cases hq:V.obk ba with
  | none=>exact Or.inl rfl
  | some b =>
   refine Or.inr (fun e => ?_);rcases hw with hw | hw
   ·rcases hap with h1 | h1
    ·rw[h1] at hw;cases hw
    ·exact h1 (hw.trans (e.symm.trans hq.symm))
   ·have:=(x.ob.lt g' ((zt _ _ _).trans (hq.trans e))).2
    omega
 ·rcases hw with hw | hw
  ·exact Or.inl hw.symm
  ·exact Or.inr (Or.inr ⟨g',rfl,hw⟩)
theorem node_brk {o n:Int} {s:ByteArray} {l:List PN} {v:Value} (e:rBrk d=some d') (ho:d.ok=true) (st:RS g w h sl cl d ka kc ca cc ba bc na nc) (hr:RepN w (fun b=>b < g) ⟨5,o,s,n,l⟩ v):Calls Tryz.prog 22 #[.pointer (some ⟨g,0,none⟩),v] w (zn g w h sl cl d' ba na):=by
 rw[RepN] at hr;obtain⟨a,cap,rfl,hcap,hrl⟩:=hr;obtain⟨A0,BX,F0⟩:=st.box 5 o s n (.slice a l.length cap);obtain⟨e,hok⟩:=zd e;subst e;have o1:=ze ho;have H0:=zh (fun (W:World) (x:za g (w.alloc (nodO 5 o s n (.slice a l.length cap))) h sl cl d ba na W)=>zw x (by omega) 7 0 0);have R0:=zh A0;have HF:=zh F0;obtain⟨b0,b1,b2,b3,b4⟩:=BX.c A0;obtain⟨i0,hi,hz0,hz1,hz2⟩:=info_parts infoI;have HI:=zh hi;have Z0:=zh hz0;have Z1:=zh hz1;have Z2:=zh hz2;have hbl:d.br.length≤50000:=by omega
 have hgn:=st.lt;clear hi hz0 hz1 hz2 A0 BX F0 st e o1 hok ho hrl
 go_enter Tryz.func22,Tryz.ntmps22
 go_wp2_with (first
  | (go_at_call 24;refine Calls.mono (zu H0 _ (zu R0)) ?_;rintro e w1 ⟨rfl,ka1,kc1,ca1,cc1,ba1,bc1,na1,nc1,S1,F1,N1,N2⟩;have HA:=zh (fun ob=>S1.ext (Ext.alloc w1 ob));obtain⟨c3,c4,c6,c7,c8,c9,c10,c11,c12,c13,zf⟩:=zF S1.row;have c12:w1.cell? ⟨g,12,none⟩=some (.slice ba1 d.br.length bc1):=c12;have hg1:=S1.lt;have FA:=zh F1;have NA:=zh N1;have NB:=zh N2;clear S1 F1 N1 N2 R0)
  | (at_builtin;refine wpList_append_where rfl (.tmp 127) (.tmp 129) 83 rfl (g+1) 3 i0 (.int .i64 0) 1 8 Tryz.underlying83 (zu HI) (zu Z0) (zu Z1) (zu Z2) rfl (by decide) ba1 d.br.length bc1 (nsI d.br) rfl (zu HA _).ob ⟨w1.heap.size,0,none⟩ 1 1 [.int .i64 (d.code.length:Int)] rfl (by decide) rfl (cells_new w1 _ _) (one_int _) ?c1 ?c2 ?c3 ?_))
 case c1=>unfold maxLen;omega
 case c2=>omega
 case c3=>simp;omega
 intro g2 cap6 w6 ho6 hg6 hw6;have hP:=RS.pushB (j:=d.code.length) (zu HA _) ho6 hg6 (hw6.imp id (fun q=>by simpa using q));have hrow6:=row_growM (zu HA _).ob hg6 (zu HA _).row;obtain⟨z3,z4,z6,z7,z8,z9,z10,z11,z12,z13,zzf⟩:=zF hrow6;have HP:=zh hP;clear hP hrow6 ho6 hg6 hw6 c3 c4 c6 c7 c8 c9 c10 c11 c12 c13 zf
 go_wp2_with fail
 go_end0
 have xa:Ext w1 (w1.alloc (.cells #[.int .i64 (d.code.length:Int)] 3 (0,0))):=Ext.alloc _ _;have fa:=(zu FA).trans (RF.of hg1 xa) (zu NA) (zu NB);exact⟨rfl,za.on (zu HF) ⟨_,_,_,_,_,_,_,_,(zu HP).1,fa.trans (zu HP).2.1 (zu NA) (zu NB),(zu NA).trans (zu HP).2.2 fa.size,zu NB⟩⟩
theorem node_cnt {o n:Int} {s:ByteArray} {l:List PN} {v:Value} (e:rCnt d=some d') (ho:d.ok=true) (st:RS g w h sl cl d ka kc ca cc ba bc na nc) (hr:RepN w (fun b=>b < g) ⟨6,o,s,n,l⟩ v):Calls Tryz.prog 22 #[.pointer (some ⟨g,0,none⟩),v] w (zn g w h sl cl d' ba na):=by
 rw[RepN] at hr;obtain⟨a,cap,rfl,hcap,hrl⟩:=hr;obtain⟨A0,BX,F0⟩:=st.box 6 o s n (.slice a l.length cap);obtain⟨e,hok⟩:=zd e;subst e;have o1:=ze ho;have H0:=zh (fun (W:World) (x:za g (w.alloc (nodO 6 o s n (.slice a l.length cap))) h sl cl d ba na W)=>zw x (by omega) 7 0 0);have R0:=zh A0;have HF:=zh F0;obtain⟨b0,b1,b2,b3,b4⟩:=BX.c A0;obtain⟨i0,hi,hz0,hz1,hz2⟩:=info_parts infoI;have HI:=zh hi;have Z0:=zh hz0;have Z1:=zh hz1;have Z2:=zh hz2;have hbl:d.nx.length≤50000:=by omega
 have hgn:=st.lt;clear hi hz0 hz1 hz2 A0 BX F0 st e o1 hok ho hrl
 go_enter Tryz.func22,Tryz.ntmps22
 go_wp2_with (first
  | (go_at_call 24;refine Calls.mono (zu H0 _ (zu R0)) ?_;rintro e w1 ⟨rfl,ka1,kc1,ca1,cc1,ba1,bc1,na1,nc1,S1,F1,N1,N2⟩;have HA:=zh (fun ob=>S1.ext (Ext.alloc w1 ob));obtain⟨c3,c4,c6,c7,c8,c9,c10,c11,c12,c13,zf⟩:=zF S1.row;have c13:w1.cell? ⟨g,13,none⟩=some (.slice na1 d.nx.length nc1):=c13;have hg1:=S1.lt;have FA:=zh F1;have NA:=zh N1;have NB:=zh N2;clear S1 F1 N1 N2 R0)
  | (at_builtin;refine wpList_append_where rfl (.tmp 141) (.tmp 143) 83 rfl (g+1) 3 i0 (.int .i64 0) 1 8 Tryz.underlying83 (zu HI) (zu Z0) (zu Z1) (zu Z2) rfl (by decide) na1 d.nx.length nc1 (nsI d.nx) rfl (zu HA _).on ⟨w1.heap.size,0,none⟩ 1 1 [.int .i64 (d.code.length:Int)] rfl (by decide) rfl (cells_new w1 _ _) (one_int _) ?c1 ?c2 ?c3 ?_))
 case c1=>unfold maxLen;omega
 case c2=>omega
 case c3=>simp;omega
 intro g2 cap6 w6 ho6 hg6 hw6;have hP:=RS.pushN (j:=d.code.length) (zu HA _) ho6 hg6 (hw6.imp id (fun q=>by simpa using q));have hrow6:=row_growM (zu HA _).on hg6 (zu HA _).row;obtain⟨z3,z4,z6,z7,z8,z9,z10,z11,z12,z13,zzf⟩:=zF hrow6;have HP:=zh hP;clear hP hrow6 ho6 hg6 hw6 c3 c4 c6 c7 c8 c9 c10 c11 c12 c13 zf
 go_wp2_with fail
 go_end0
 have xa:Ext w1 (w1.alloc (.cells #[.int .i64 (d.code.length:Int)] 3 (0,0))):=Ext.alloc _ _;have fa:=(zu FA).trans (RF.of hg1 xa) (zu NA) (zu NB);exact⟨rfl,za.on (zu HF) ⟨_,_,_,_,_,_,_,_,(zu HP).1,fa.trans (zu HP).2.1 (zu NA) (zu NB),zu NA,(zu NB).trans (zu HP).2.2 fa.size⟩⟩
theorem node_ret0 (I:zM g h sl cl nd) (P:NdP nd) {o n:Int} {s:ByteArray} {v:Value} (e:rRet nd [] d=some d') (ho:d.ok=true) (st:RS g w h sl cl d ka kc ca cc ba bc na nc) (hr:RepN w (fun b=>b < g) ⟨7,o,s,n,[]⟩ v):Calls Tryz.prog 22 #[.pointer (some ⟨g,0,none⟩),v] w (zn g w h sl cl d' ba na):=by
 rw[RepN] at hr;obtain⟨a,cap,rfl,hcap,hrl⟩:=hr;obtain⟨A0,BX,F0⟩:=st.box 7 o s n (.slice a 0 cap);have hrb:RepNL (w.alloc (nodO 7 o s n (.slice a 0 cap))) (fun b=>b < g) [] a:=by simp[RepNL]
 obtain⟨m0,e0,e⟩:=zc e;rw[if_pos rfl] at e0;obtain⟨e0,ok0⟩:=zd e0;subst e0;obtain⟨m1,e1,e⟩:=zc e;obtain⟨e,hok⟩:=zd e;subst e;have o0:=ze ho;have o1:=ze ((zq P [] _ m1 e1).2 ok0);have H0:=zh (fun (W:World) (x:za g (w.alloc (nodO 7 o s n (.slice a 0 cap))) h sl cl d ba na W)=>qv none x (by omega) (by omega));have H1:=zh (fun (W:World) (x:za g (w.alloc (nodO 7 o s n (.slice a 0 cap))) h sl cl (d.cst none) ba na W)=>zR I P [] e1 ok0 (by simp) a cap x hrb);have H2:=zh (fun (W:World) (x:za g (w.alloc (nodO 7 o s n (.slice a 0 cap))) h sl cl m1 ba na W)=>zw x (by omega) 10 0 0);have R0:=zh A0;have HB:=zh BX;have HF:=zh F0;obtain⟨b0,b1,b2,b3,b4⟩:=BX.c A0;clear A0 BX F0 hrb hrl st I P e e1 o0 o1 hok ho ok0
 go_enter Tryz.func22,Tryz.ntmps22
 go_wp2_with (first
  | (have G:=zu R0;clear G;go_at_call 23;refine Calls.mono (zu H0 _ (zu R0)) ?_;rintro e w1 ⟨rfl,hr⟩;have R1:=zh hr;clear hr R0;clear b0 b1 b2 b3 b4;obtain⟨b0,b1,b2,b3,b4⟩:=(zu HB).c (zu R1))
  | (have G:=zu R1;clear G;go_at_call 46;refine Calls.mono (zu H1 _ (zu R1)) ?_;rintro e w2 ⟨rfl,hr⟩;have R2:=zh hr;clear hr R1;clear b0 b1 b2 b3 b4;obtain⟨b0,b1,b2,b3,b4⟩:=(zu HB).c (zu R2))
  | (have G:=zu R2;clear G;go_at_call 24;refine Calls.mono (zu H2 _ (zu R2)) ?_;rintro e w3 ⟨rfl,hr⟩;have R3:=zh hr;clear hr R2))
 go_end0
 exact⟨rfl,za.on (zu HF) (zu R3)⟩
end
section
variable {g:Nat} {w w0 w1 w' w2:World} {h:RHd} {sl cl:List Int} {d d':RG} {ka ca ba na:Option Addr} {kc cc bc nc:Nat} {nd:PN→RG→Option RG}
theorem zW {P:Program} (base:Nat) (t ty e:TypeId) (i:TypeInfo) (size:Nat) (ht:P.underlying t=some (.slice e)) (hi:P.info? e=some i) (v:Value) (n:Nat) (xs:List Value) (hown:w.ownsRow base e size v n xs) (ao:Option Addr) (c:Nat) :
  (Builtin.append_ #[t,t] ty #[v,.slice ao 0 c]).run P w = .ok v w:=by
 cases ao with
 | none =>
  rcases hown.2 with⟨rfl,rfl⟩ | ⟨g,cap,cur,rfl,_,_,hnc,_⟩
  ·simp[Builtin.append_,run_underlying ht,sizeOf,typeInfo,hi,Builtin.lenOf,Builtin.firstCells]
  ·simp[Builtin.append_,run_underlying ht,sizeOf,typeInfo,hi,Builtin.lenOf,Builtin.firstCells,hnc,storeCells]
 | some ad =>
  rcases hown.2 with⟨rfl,rfl⟩ | ⟨g,cap,cur,rfl,_,_,hnc,_⟩
  ·simp[Builtin.append_,run_underlying ht,sizeOf,typeInfo,hi,Builtin.lenOf,Builtin.firstCells,loadCells,loadCellsFrom]
  ·simp[Builtin.append_,run_underlying ht,sizeOf,typeInfo,hi,Builtin.lenOf,Builtin.firstCells,hnc,storeCells,loadCells,loadCellsFrom]
theorem zS {P:Program} {ops:Array Oper} {rest:List Oper} {o:Oper} {a:Act} {Q:Exit→Act→World→Prop} (hgd:o.guard=none) (s x:Operand) (t:TypeId)
  (ho:o.op = .call { callee:=.builtin .append,args:=#[s,x],argTypes:=#[t,t] })
  (base:Nat) (e:TypeId) (i:TypeInfo) (size:Nat) (ht:P.underlying t=some (.slice e)) (hi:P.info? e=some i)
  (v:Value) (n:Nat) (xs:List Value) (hs:a.eval s=v) (hown:w.ownsRow base e size v n xs) (ao:Option Addr) (c:Nat) (hx:a.eval x = .slice ao 0 c)
  (h:wpList P ops Q rest (a.put o.dst v) w):wpList P ops Q (o :: rest) a w:=by
 refine wpList_plain hgd fun K hK => ?_;have hrun:=zW (P:=P) (w:=w) base t o.type e i size ht hi v n xs hown ao c;unfold Oper.wp;simp[execOp,ho,resolve,invoke,builtin,hs,hx,hrun,Result.andThen];exact hK _ _ h
theorem own_num {base n:Nat} {l:List Nat} {a:Option Addr} {c:Nat} (ho:w.ownsRow base 3 1 (.slice a n c) n (nsI l)) (hn:n=l.length):zI w l a:=by
 subst hn;rcases ho.2 with⟨e,e0⟩ | ⟨b,cap,cur,e,hb,hg,hnc,_,hsz,htk⟩
 ·exact Or.inl (List.eq_nil_of_length_eq_zero e0)
 ·injection e with e1 e2 e3
  subst e1;refine Or.inr ⟨b,cur,_,rfl,hg,fun j x hx => ?_⟩;have hj:j < l.length:=(List.getElem?_eq_some_iff.1 hx).1;have:=congrArg (fun q=>q[j]?) htk;simp only[Nat.mul_one] at this;rw[List.getElem?_take,if_pos (by omega)] at this;rw[← Array.getElem?_toList,this];simp[nsI,hx]
theorem RF.weak (f:RF g none none w w'):RF g ba na w w':=⟨f.os,f.tape,f.output,f.size,f.low,fun b cs t fr hb h1 h2 h3 _ _=>f.typ b cs t fr hb h1 h2 h3 (fun e=>by cases e) (fun e=>by cases e)⟩
theorem qM {n:Nat} {v:Value} {xs:List Value} (ho:w.ownsRow (g+1) 3 1 v n xs) (f:RF g none none w w'):w'.ownsRow (g+1) 3 1 v n xs:=by
 refine own_keepM ho (fun q hq => ?_);rcases ho.2 with⟨e,e0⟩ | ⟨b,cap,cur,e,hb,hg,_⟩
 ·rw[e] at hq;cases hq
 ·rw[e] at hq
  simp only[Value.ownBlock,Option.some.injEq] at hq;subst hq;rw[hg];exact f.typ b _ _ _ hg (by omega) (by decide) (by decide) (fun e=>by cases e) (fun e=>by cases e)
theorem RS.clr (x:RS g w h sl cl d ka kc ca cc ba bc na nc):RS g ((w.setCell ⟨g,12,none⟩ (.slice none 0 0)).setCell ⟨g,13,none⟩ (.slice none 0 0)) h sl cl { d with br:=[],nx:=[] } ka kc ca cc none 0 none 0:=by
 have k:∀ b,b < g→((w.setCell ⟨g,12,none⟩ (.slice none 0 0)).setCell ⟨g,13,none⟩ (.slice none 0 0)).heap[b]? = w.heap[b]?:=fun b hb=>by
  rw[Below.heap_setCell _ _ _ _ (by show b≠g;omega),Below.heap_setCell _ _ _ _ (by show b≠g;omega)]
 exact⟨row_set (row_set x.row 12 _) 13 _,ownsRow_setCell_below (ownsRow_setCell_below x.ok (Nat.lt_succ_self g) _) (Nat.lt_succ_self g) _,ownsRow_setCell_below (ownsRow_setCell_below x.oc (Nat.lt_succ_self g) _) (Nat.lt_succ_self g) _,⟨rfl,Or.inl ⟨rfl,rfl⟩⟩,⟨rfl,Or.inl ⟨rfl,rfl⟩⟩,Or.inl rfl,x.sl.to (fun b hb=>⟨hb,k b hb⟩),x.cl.to (fun b hb=>⟨hb,k b hb⟩)⟩
theorem RS.back (x:RS g w h sl cl d ka kc ca cc ba bc na nc) {l1 l2:List Nat} {a1 a2:Option Addr} {c1 c2:Nat} (o1:w.ownsRow (g+1) 3 1 (.slice a1 l1.length c1) l1.length (nsI l1)) (o2:w.ownsRow (g+1) 3 1 (.slice a2 l2.length c2) l2.length (nsI l2)) (ap:V.obk a1=none∨V.obk a1≠V.obk a2):RS g ((w.setCell ⟨g,12,none⟩ (.slice a1 l1.length c1)).setCell ⟨g,13,none⟩ (.slice a2 l2.length c2)) h sl cl { d with br:=l1,nx:=l2 } ka kc ca cc a1 c1 a2 c2:=by
 have k:∀ b,b < g→((w.setCell ⟨g,12,none⟩ (.slice a1 l1.length c1)).setCell ⟨g,13,none⟩ (.slice a2 l2.length c2)).heap[b]? = w.heap[b]?:=fun b hb=>by
  rw[Below.heap_setCell _ _ _ _ (by show b≠g;omega),Below.heap_setCell _ _ _ _ (by show b≠g;omega)]
 exact⟨row_set (row_set x.row 12 _) 13 _,ownsRow_setCell_below (ownsRow_setCell_below x.ok (Nat.lt_succ_self g) _) (Nat.lt_succ_self g) _,ownsRow_setCell_below (ownsRow_setCell_below x.oc (Nat.lt_succ_self g) _) (Nat.lt_succ_self g) _,ownsRow_setCell_below (ownsRow_setCell_below o1 (Nat.lt_succ_self g) _) (Nat.lt_succ_self g) _,ownsRow_setCell_below (ownsRow_setCell_below o2 (Nat.lt_succ_self g) _) (Nat.lt_succ_self g) _,ap,x.sl.to (fun b hb=>⟨hb,k b hb⟩),x.cl.to (fun b hb=>⟨hb,k b hb⟩)⟩
theorem extR_grown {ob:Obj} {w6:World} (hgw:(w.alloc ob).grownBy w6 (some w.heap.size)):Ext w w6 :=
 { os:=hgw.os,tape:=hgw.tape,output:=hgw.output,size:=Nat.le_trans (Ext.alloc w ob).size hgw.size,block:=fun k hk=>(hgw.block k (Nat.lt_of_lt_of_le hk (Ext.alloc w ob).size) (fun e=>by injection e with e;omega)).trans ((Ext.alloc w ob).block k hk) }
theorem BxK.clr {B:Nat} {k o n:Int} {s:ByteArray} {v:Value} (b:BxK g ba na w B k o s n v) (u1 u2:Value):BxK g none none ((w.setCell ⟨g,12,none⟩ u1).setCell ⟨g,13,none⟩ u2) B k o s n v :=
 ⟨by rw[Below.heap_setCell _ _ _ _ (by show B≠g;exact b.ne),Below.heap_setCell _ _ _ _ (by show B≠g;exact b.ne)];exact b.row,b.ne,(by intro e;cases e),(by intro e;cases e)⟩
theorem Kid.low2 {b o:Nat} {c0 c1 c2 c3 c4:Value} {q:PN} (k:Kid g w b o c0 c1 c2 c3 c4 q) (hk:∀ b,b < g→w'.heap[b]? = w.heap[b]?):Kid g w' b o c0 c1 c2 c3 c4 q:=by
 have e:∀ o,w'.cell? ⟨b,o,none⟩=w.cell? ⟨b,o,none⟩:=fun o=>World.cell?_of_block (w:=w) (hk b k.low);exact⟨k.low,by rw[e,e,e,e,e];exact k.c,RepN.to (fun b hb=>⟨hb,hk b hb⟩) _ _ k.rep⟩
theorem qG (u1 u2:Value):∀ b,b < g→((w.setCell ⟨g,12,none⟩ u1).setCell ⟨g,13,none⟩ u2).heap[b]? = w.heap[b]?:=fun b hb=>by
 rw[Below.heap_setCell _ _ _ _ (by show b≠g;omega),Below.heap_setCell _ _ _ _ (by show b≠g;omega)]
theorem one_nsI (l:List Nat):∀ u ∈ nsI l,u.oneCell' = true:=by
 intro u hu;obtain⟨j,_,rfl⟩:=List.mem_map.1 hu;exact one_int (j:Int) _ (by simp)
theorem own_pos {base n:Nat} {l:List Nat} {a:Option Addr} {c:Nat} (ho:w.ownsRow base 3 1 (.slice a n c) n (nsI l)) (h0:0 < n):∃ b,a=some ⟨b,0,none⟩∧∀ W,Ext w W→∀ (j:Nat) (u:Value),(nsI l)[j]? = some u→W.cell? ((⟨b,0,none⟩:Addr).add j)=some u:=by
 rcases id ho.2 with⟨e,e0⟩ | ⟨b,cap,cur,e,hb,hg,hnc,_,hsz,htk⟩
 ·omega
 ·injection e with e1 e2 e3
  subst e1 e3;exact⟨b,rfl,fun W x j u hu=>x.cell (ho.cells (g:=b) rfl j u hu)⟩
theorem rloop_m (I:zM g h sl cl nd) (P:NdP nd) {o n:Int} {s:ByteArray} {p q:PN} {v:Value} (e:qI nd [p,q] d=some d') (ho:d.ok=true) (st:RS g w h sl cl d ka kc ca cc ba bc na nc) (hr:RepN w (fun b=>b < g) ⟨4,o,s,n,[p,q]⟩ v):Calls Tryz.prog 49 #[.pointer (some ⟨g,0,none⟩),v] w (zn g w h sl cl d' ba na):=by
 rw[RepN] at hr;obtain⟨a,cap,rfl,hcap,hrl⟩:=hr;obtain⟨A0,BX,F0⟩:=st.box 4 o s n (.slice a 2 cap);have hrb:RepNL (w.alloc (nodO 4 o s n (.slice a 2 cap))) (fun b=>b < g) [p,q] a:=RepNL.to (fun b hb=>⟨hb,F0.low b hb⟩) _ a hrl;obtain⟨kb,ko,p0,p1,p2,p3,p4,q0,q1,q2,q3,q4,rfl,KP,KQ⟩:=kids2 hrb;obtain⟨m0,e0,e⟩:=zc e;obtain⟨e0,ok0⟩:=zd e0;obtain⟨m1,e1,e⟩:=zc e;obtain⟨ma,ea,e⟩:=zc e;obtain⟨ea,oka⟩:=zd ea;subst ea;obtain⟨m2,e2,e⟩:=zc e;obtain⟨m3,e3,e⟩:=zc e;obtain⟨e3,ok3⟩:=zd e3;obtain⟨e,hok⟩:=zd e;have o0:=ze ho;have o1:=ze ((P p m0 m1 e1).2 ok0);have o2:=ze ((P q _ m2 e2).2 oka);have l2:=(P q _ m2 e2).1;rw[zj] at l2;obtain⟨w1,hw1⟩:∃ w1,w1=w.alloc (nodO 4 o s n (.slice (some ⟨kb,ko,none⟩) 2 cap)):=⟨_,rfl⟩
 rw[← hw1] at A0 BX F0 KP KQ;have S1:RS g w1 h sl cl d ka kc ca cc ba bc na nc:=by rw[hw1];exact st.ext (Ext.alloc _ _)
 obtain⟨c3,c4,c6,c7,c8,c9,c10,c11,c12,c13,zf⟩:=zF S1.row;obtain⟨i0,hi,hz0,hz1,hz2⟩:=info_parts infoI;have HI:=zh hi;have Z0:=zh hz0;have Z1:=zh hz1;have Z2:=zh hz2;have HW1:=zh hw1;have hgn:=st.lt;clear hi hz0 hz1 hz2 hrb hrl A0 hw1
 go_enter Tryz.func49,Tryz.ntmps49
 go_wp2_with fail
 rw[← zu HW1];have hne:Nonempty (RGw w1):=⟨⟨w1,Ext.refl _⟩⟩;have y12:∀ y:RGw w1,y.w.cell? ⟨g,12,none⟩=some (.slice ba d.br.length bc):=fun y=>y.h.cell c12;have y13:∀ y:RGw w1,y.w.cell? ⟨g,13,none⟩=some (.slice na d.nx.length nc):=fun y=>y.h.cell c13;refine wp_region_rx (W:=w1) (by kernel_rfl) (by kernel_rfl) (Ext.refl _) ?_
 repeat (go_big_quiet_step (fail))
 refine wpQuiet_nil ?_;rintro w4 ⟨⟨_,hx4⟩,rfl⟩;have S4:=S1.ext hx4;have S5:RS g ((w4.setCell ⟨g,12,none⟩ (.slice none 0 0)).setCell ⟨g,13,none⟩ (.slice none 0 0)) h sl cl m0 ka kc ca cc none 0 none 0:=by rw[← e0];exact S4.clr
 have B4:BxK g ba na w4 w.heap.size 4 o s n (.slice (some ⟨kb,ko,none⟩) 2 cap):=⟨hx4.row BX.row,BX.ne,BX.nb,BX.nn⟩;have B5:BxK g none none ((w4.setCell ⟨g,12,none⟩ (.slice none 0 0)).setCell ⟨g,13,none⟩ (.slice none 0 0)) w.heap.size 4 o s n (.slice (some ⟨kb,ko,none⟩) 2 cap):=B4.clr _ _;have KP5:Kid g ((w4.setCell ⟨g,12,none⟩ (.slice none 0 0)).setCell ⟨g,13,none⟩ (.slice none 0 0)) kb ko p0 p1 p2 p3 p4 p:=(KP.low2 (fun b hb=>hx4.block b (by have:=S1.lt;omega))).low2 (qG _ _);have KQ5:Kid g ((w4.setCell ⟨g,12,none⟩ (.slice none 0 0)).setCell ⟨g,13,none⟩ (.slice none 0 0)) kb (ko+5) q0 q1 q2 q3 q4 q:=(KQ.low2 (fun b hb=>hx4.block b (by have:=S1.lt;omega))).low2 (qG _ _)
 have H0:=zh (fun (W:World) (x:za g ((w4.setCell ⟨g,12,none⟩ (.slice none 0 0)).setCell ⟨g,13,none⟩ (.slice none 0 0)) h sl cl m0 none none W)=>I.k e1 ok0 x (KP5.at x).rep);have H1:=zh (fun (W:World) (x:za g ((w4.setCell ⟨g,12,none⟩ (.slice none 0 0)).setCell ⟨g,13,none⟩ (.slice none 0 0)) h sl cl m1 none none W)=>zw x (by omega) 8 0 0);have H2:=zh (fun (W:World) (x:za g ((w4.setCell ⟨g,12,none⟩ (.slice none 0 0)).setCell ⟨g,13,none⟩ (.slice none 0 0)) h sl cl (m1.add 8 0 0) none none W)=>I.k e2 oka x (KQ5.at x).rep);have H3:=zh (fun (W:World) (ka8:Option Addr) (kc8:Nat) (ca8:Option Addr) (cc8:Nat) (ba8:Option Addr) (bc8:Nat) (na8:Option Addr) (nc8:Nat) (S8:RS g W h sl cl m2 ka8 kc8 ca8 cc8 ba8 bc8 na8 nc8)=>rland_m S8 (by omega) m2.nx na8 nc8 o2.2.2.2.2.2.2 (own_num S8.on rfl) (by omega))
 have H4:=zh (fun (w8:World) (ba8 na8:Option Addr) (W:World) (x:za g w8 h sl cl (m2.land m2.nx) ba8 na8 W)=>rtick_k x (by rw[zA];omega) (by show 0≤m2.tk∧m2.tk≤_;omega));have H5:=zh (fun (w8:World) (ba8 na8:Option Addr) (W:World) (x:za g w8 h sl cl (m2.land m2.nx).tick ba8 na8 W)=>zw x (by rw[qf,zA];omega) 7 (d.code.length:Int) 0);obtain⟨mt,hmt⟩:∃ mt,mt=(m2.land m2.nx).tick.add 7 (d.code.length:Int) 0:=⟨_,rfl⟩;have tl:mt.code.length=m2.code.length+2:=by rw[hmt,zj,qf,zA]
 have tb:mt.br=m2.br:=by rw[hmt];rfl
 rw[← hmt] at H5 e3;have HN0:Hd (m2.br = []→∀ (w8:World) (ba8 na8:Option Addr) (W:World),za g w8 h sl cl mt ba8 na8 W→Calls Tryz.prog 48 #[.pointer (some ⟨g,0,none⟩),.slice (some ⟨W.heap.size,0,none⟩) 1 1] (W.alloc (.cells #[.int .i64 (m1.code.length:Int)] 3 (0,0))) (zn g w8 h sl cl m3 ba8 na8)):=fun hbr w8 ba8 na8 W x=>by
  have:=land1 x (by omega) m1.code.length (by omega);rw[hbr] at e3;rw[e3] at this;exact this
 have HP0:Hd (∀ (w8:World) (ba8 na8:Option Addr) (W:World) (la:Option Addr) (lc:Nat),za g w8 h sl cl mt ba8 na8 W→zI W (m1.code.length :: m2.br) la→Calls Tryz.prog 48 #[.pointer (some ⟨g,0,none⟩),.slice la (1+m2.br.length) lc] W (zn g w8 h sl cl m3 ba8 na8)):=fun w8 ba8 na8 W la lc x hn=>by
  have:=rland_k x (by omega) (m1.code.length :: m2.br) la lc (fun j hj=>by
   rcases List.mem_cons.1 hj with rfl | hj
   ·omega
   ·have:=o2.2.2.2.2.2.1 j hj;omega) hn (by simp;omega)
  rw[e3,List.length_cons,Nat.add_comm] at this;exact this
 have R0:Hd (za g ((w4.setCell ⟨g,12,none⟩ (.slice none 0 0)).setCell ⟨g,13,none⟩ (.slice none 0 0)) h sl cl m0 none none ((w4.setCell ⟨g,12,none⟩ (.slice none 0 0)).setCell ⟨g,13,none⟩ (.slice none 0 0))):=S5.refl;obtain⟨b0,b1,b2,b3,b4⟩:=B5.c (zu R0);obtain⟨k0,k1,k2,k3,k4⟩:=KP5.c;have g4:((w4.setCell ⟨g,12,none⟩ (.slice none 0 0)).setCell ⟨g,13,none⟩ (.slice none 0 0)).cell? ⟨g,4,none⟩=some (.slice ka d.code.length kc):=by
  have:=(zF S5.row).2.1;rw[← e0] at this;exact this
 have d12:=hx4.cell c12;have d13:=hx4.cell c13;have zf4:=(zF S4.row).2.2.2.2.2.2.2.2.2.2;have HB:=zh B5;have HKQ:=zh KQ5;have HS4:=zh S4;have HO1:Hd (((w4.setCell ⟨g,12,none⟩ (.slice none 0 0)).setCell ⟨g,13,none⟩ (.slice none 0 0)).ownsRow (g+1) 3 1 (.slice ba d.br.length bc) d.br.length (nsI d.br)):=ownsRow_setCell_below (ownsRow_setCell_below S4.ob (Nat.lt_succ_self g) _) (Nat.lt_succ_self g) _;have HO2:Hd (((w4.setCell ⟨g,12,none⟩ (.slice none 0 0)).setCell ⟨g,13,none⟩ (.slice none 0 0)).ownsRow (g+1) 3 1 (.slice na d.nx.length nc) d.nx.length (nsI d.nx)):=ownsRow_setCell_below (ownsRow_setCell_below S4.on (Nat.lt_succ_self g) _) (Nat.lt_succ_self g) _;have HAP:=zh S4.ap
 have HF4:Hd (RF g ba na w ((w4.setCell ⟨g,12,none⟩ (.slice none 0 0)).setCell ⟨g,13,none⟩ (.slice none 0 0))):=(((F0.trans (RF.of S1.lt hx4) (zl.refl _ _) (zl.refl _ _)).set 12 _).set 13 _);have HE3:=zh e3;have HE:=zh e;have HTB:=zh tb;have hML:m2.br.length≤50000:=by omega
 obtain⟨M,hM⟩:∃ M,M=m2.br.length:=⟨_,rfl⟩;have HM:=zh hM;rw[← hM] at hML;clear hM e e3 e0 e1 e2 ho ok0 oka ok3 hok o0 o1 o2 l2 I P S1 S4 S5 B4 B5 BX KP KQ KP5 KQ5 F0 hx4 y12 y13 c3 c4 c6 c7 c8 c9 c10 c11 c12 c13 zf st hmt tl tb hne hcap;rcases Nat.eq_zero_or_pos M with h0 | h0
 ·have hbr:m2.br = []:=List.eq_nil_of_length_eq_zero (by rw[← zu HM];exact h0)
  have HZ:=zh (zu HN0 hbr);subst h0
  go_wp2_with (first
   | (have G:=zu R0;clear G;go_at_call 22;refine Calls.mono (zu H0 _ (zu R0)) ?_;rintro e w6 ⟨rfl,hr⟩;have R1:=zh hr;clear hr R0 b0 b1 b2 b3 b4 k0 k1 k2 k3 k4 g4 d12 d13 zf4)
   | (have G:=zu R1;clear G;go_at_call 24;refine Calls.mono (zu H1 _ (zu R1)) ?_;rintro e w7 ⟨rfl,hr⟩;have R2:=zh hr;clear hr R1;obtain⟨b0,b1,b2,b3,b4⟩:=(zu HB).c (zu R2);obtain⟨k0,k1,k2,k3,k4⟩:=((zu HKQ).at (zu R2)).c)
   | (have G:=zu R2;clear G;go_at_call 22;refine Calls.mono (zu H2 _ (zu R2)) ?_;rintro e w8 ⟨rfl,ka8,kc8,ca8,cc8,ba8,bc8,na8,nc8,S8,F8,N8,M8⟩;clear R2 b0 b1 b2 b3 b4 k0 k1 k2 k3 k4;obtain⟨c3,c4,c6,c7,c8,c9,c10,c11,c12,c13,zf⟩:=zF S8.row;have HL:=zh (zu H3 w8 _ _ _ _ _ _ _ _ S8);have HF8:=zh F8;have HN8:=zh N8;have HM8:=zh M8;clear S8 F8 N8 M8)
   | (have G:=zu HL;clear G;go_at_call 48;refine Calls.mono (zu HL) ?_;rintro e w9 ⟨rfl,hr⟩;have R4:=zh hr;clear hr HL c3 c4 c6 c7 c8 c9 c10 c11 c12 c13 zf)
   | (have G:=zu R4;clear G;go_at_call 73;refine Calls.mono (zu H4 _ _ _ _ (zu R4)) ?_;rintro e w10 ⟨rfl,hr⟩;have R5:=zh hr;clear hr R4)
   | (have G:=zu R5;clear G;go_at_call 24;refine Calls.mono (zu H5 _ _ _ _ (zu R5)) ?_;rintro e w11 ⟨rfl,hr⟩;have R6:=zh hr;clear R5;obtain⟨ka9,kc9,ca9,cc9,ba9,bc9,na9,nc9,S9,F9,N9,M9⟩:=hr;have c12:=(zF S9.row).2.2.2.2.2.2.2.2.1;rw[zu HTB,hbr] at c12;have c12:w11.cell? ⟨g,12,none⟩=some (.slice ba9 0 bc9):=c12;have hg9:=S9.lt;have c12b:=fun ob=>(Ext.alloc w11 ob).cell c12;clear S9 F9 N9 M9 c12)
   | (at_builtin;refine zS rfl (.tmp 55) (.tmp 59) 83 rfl (g+1) 3 i0 1 Tryz.underlying83 (zu HI) (.slice (some ⟨w11.heap.size,0,none⟩) 1 1) 1 [.int .i64 (m1.code.length:Int)] rfl (World.ownsRow_lit w11 _ 1 (by omega) (by decide) rfl) ba9 bc9 rfl ?_)
   | (have G:=zu R6;clear G;go_at_call 48;refine Calls.mono (zu HZ _ _ _ _ (zu R6)) ?_;rintro e w12 ⟨rfl,ka12,kc12,ca12,cc12,ba12,bc12,na12,nc12,S12,F12,N12,M12⟩;obtain⟨c3,c4,c6,c7,c8,c9,c10,c11,c12,c13,zf⟩:=zF S12.row;have HS:=zh S12;have HF12:=zh F12;clear S12 F12 N12 M12 R6))
  go_end0
  have hF:=(zu HF8).trans (zu HF12) (zu HN8) (zu HM8);have SB:=(zu HS).back (qM (zu HO1) hF) (qM (zu HO2) hF) (zu HAP);rw[zu HE] at SB;exact⟨rfl,_,_,_,_,_,_,_,_,SB,(((zu HF4).trans hF.weak (zl.refl _ _) (zl.refl _ _)).set 12 _).set 13 _,zl.refl _ _,zl.refl _ _⟩
 ·go_wp2_with (first
   | (have G:=zu R0;clear G;go_at_call 22;refine Calls.mono (zu H0 _ (zu R0)) ?_;rintro e w6 ⟨rfl,hr⟩;have R1:=zh hr;clear hr R0 b0 b1 b2 b3 b4 k0 k1 k2 k3 k4 g4 d12 d13 zf4)
   | (have G:=zu R1;clear G;go_at_call 24;refine Calls.mono (zu H1 _ (zu R1)) ?_;rintro e w7 ⟨rfl,hr⟩;have R2:=zh hr;clear hr R1;obtain⟨b0,b1,b2,b3,b4⟩:=(zu HB).c (zu R2);obtain⟨k0,k1,k2,k3,k4⟩:=((zu HKQ).at (zu R2)).c)
   | (have G:=zu R2;clear G;go_at_call 22;refine Calls.mono (zu H2 _ (zu R2)) ?_;rintro e w8 ⟨rfl,ka8,kc8,ca8,cc8,ba8,bc8,na8,nc8,S8,F8,N8,M8⟩;clear R2 b0 b1 b2 b3 b4 k0 k1 k2 k3 k4;obtain⟨c3,c4,c6,c7,c8,c9,c10,c11,c12,c13,zf⟩:=zF S8.row;have HL:=zh (zu H3 w8 _ _ _ _ _ _ _ _ S8);have HF8:=zh F8;have HN8:=zh N8;have HM8:=zh M8;clear S8 F8 N8 M8)
   | (have G:=zu HL;clear G;go_at_call 48;refine Calls.mono (zu HL) ?_;rintro e w9 ⟨rfl,hr⟩;have R4:=zh hr;clear hr HL c3 c4 c6 c7 c8 c9 c10 c11 c12 c13 zf)
   | (have G:=zu R4;clear G;go_at_call 73;refine Calls.mono (zu H4 _ _ _ _ (zu R4)) ?_;rintro e w10 ⟨rfl,hr⟩;have R5:=zh hr;clear hr R4)
   | (have G:=zu R5;clear G;go_at_call 24;refine Calls.mono (zu H5 _ _ _ _ (zu R5)) ?_;rintro e w11 ⟨rfl,hr⟩;have R6:=zh hr;clear R5;obtain⟨ka9,kc9,ca9,cc9,ba9,bc9,na9,nc9,S9,F9,N9,M9⟩:=hr;have c12:=(zF S9.row).2.2.2.2.2.2.2.2.1;rw[zu HTB,← zu HM] at c12;have hob:=S9.ob;rw[zu HTB,← zu HM] at hob;have hg9:=S9.lt;have c12b:=fun ob=>(Ext.alloc w11 ob).cell c12;clear S9 F9 N9 M9 c12;obtain⟨bb,hbb,hcs⟩:=own_pos hob h0;subst hbb;have hcb:=fun ob=>hcs (w11.alloc ob) (Ext.alloc w11 ob);clear hcs hob)
   | (at_builtin;refine wpList_append_where rfl (.tmp 55) (.tmp 59) 83 rfl (g+1) 3 i0 (.int .i64 0) 1 8 Tryz.underlying83 (zu HI) (zu Z0) (zu Z1) (zu Z2) rfl (by decide) (some ⟨w11.heap.size,0,none⟩) 1 1 [.int .i64 (m1.code.length:Int)] rfl (World.ownsRow_lit w11 _ 1 (by omega) (by decide) rfl) ⟨bb,0,none⟩ M bc9 (nsI m2.br) rfl h0 ?c1 (hcb _) (one_nsI _) ?c2 ?c3 ?c4 ?_))
  case c1=>simp[nsI,zu HM]
  case c2=>unfold maxLen;omega
  case c3=>omega
  case c4=>simp;omega
  intro g2 cap6 w6 ho6 hg6 hw6;have X6:=extR_grown hg6;have R6b:=zh ((zu R6).ext X6);have HN6:zI w6 (m1.code.length :: m2.br) (some ⟨g2,0,none⟩):=own_num (l:=m1.code.length :: m2.br) ho6 (by rw[zu HM];simp;omega);have HLL:=zu HP0 _ _ _ _ _ cap6 (zu R6b) HN6;rw[← zu HM] at HLL;have HL2:=zh HLL;clear HLL HN6 X6 ho6 hg6 hw6 R6 c12b hcb;have R6:=R6b;clear R6b
  go_wp2_with (go_at_call 48;refine Calls.mono (zu HL2) ?_;rintro e w12 ⟨rfl,ka12,kc12,ca12,cc12,ba12,bc12,na12,nc12,S12,F12,N12,M12⟩;obtain⟨c3,c4,c6,c7,c8,c9,c10,c11,c12,c13,zf⟩:=zF S12.row;have HS:=zh S12;have HF12:=zh F12;clear S12 F12 N12 M12 R6)
  go_end0
  have hF:=(zu HF8).trans (zu HF12) (zu HN8) (zu HM8);have SB:=(zu HS).back (qM (zu HO1) hF) (qM (zu HO2) hF) (zu HAP);rw[zu HE] at SB;exact⟨rfl,_,_,_,_,_,_,_,_,SB,(((zu HF4).trans hF.weak (zl.refl _ _) (zl.refl _ _)).set 12 _).set 13 _,zl.refl _ _,zl.refl _ _⟩
end
end Go.Proofs.YtdnclahaejlehaaGreat
