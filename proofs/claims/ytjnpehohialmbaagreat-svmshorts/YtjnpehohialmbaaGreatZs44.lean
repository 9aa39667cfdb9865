/- Two values that are nil or whole numbers,held against one another by the document. -/
import Derived.Test.YtjnpehohialmbaaGreatZs43
import Derived.Test.YtjnpehohialmbaaGreatZs20
set_option linter.unusedSimpArgs false
set_option linter.unusedVariables false
set_option maxRecDepth 10000
set_option maxHeartbeats 4000000
namespace Go.Proofs.YtjnpehohialmbaaGreat
open Go.RowKit
section
abbrev rcW (v:Option V.RK) (a:Option Addr) (c:Nat):Value:=.agg #[.int .i64 (V.rcK v),.int .i64 (V.rcN v),.complex .f64 0 (V.rcM v),.string ⟨#[]⟩,.slice a 0 c]
theorem rsame_yes (k n:Int) (m:Nat) (hO2:(!FloatKind.f64.format.order m m == some Ordering.eq)=false) (a b:Option Addr) (c e:Nat) (w:World):Calls Tryz.prog 46 #[.agg #[.int .i64 k,.int .i64 n,.complex .f64 0 m,.string ⟨#[]⟩,.slice a 0 c],.agg #[.int .i64 k,.int .i64 n,.complex .f64 0 m,.string ⟨#[]⟩,.slice b 0 e]] w fun r w'=>r = .returned (.bool true)∧Ext w w':=by
 have hO:(!FloatKind.f64.format.order 0 0 == some Ordering.eq)=false:=by kernel_rfl
 go_enter Tryz.func46,Tryz.ntmps46
 go_wp2_with fail
 have HE:Hd (∀ (o1 o2:Obj),Ext w ((w.alloc o1).alloc o2)):=fun o1 o2=>(Ext.alloc _ _).trans (Ext.alloc _ _)
 go_loopw [5] (fun t wr=>t = .int .i64 0∧Hd (Ext w wr)∧wr.cell? ⟨w.heap.size,4,none⟩=some (.slice a 0 c)) (fun _ _ => 0)
 case atStart=>exact⟨rfl,zu HE _ _,(Ext.alloc _ _).cell (zr (Go.heap_alloc_new w _) 4 rfl)⟩
 case round =>
  obtain⟨rfl,hX,c4⟩:=hrel
  go_wp2_with fail
  go_ret;exact⟨rfl,zu hX⟩
theorem rsame_no (k n k' n':Int) (m m':Nat) (a b:Option Addr) (c e:Nat) (w:World) (h:k≠k'∨(k=k'∧n≠n')):Calls Tryz.prog 46 #[.agg #[.int .i64 k,.int .i64 n,.complex .f64 0 m,.string ⟨#[]⟩,.slice a 0 c],.agg #[.int .i64 k',.int .i64 n',.complex .f64 0 m',.string ⟨#[]⟩,.slice b 0 e]] w fun r w'=>r = .returned (.bool false)∧Ext w w':=by
 have HE:Hd (∀ (o1 o2:Obj),Ext w ((w.alloc o1).alloc o2)):=fun o1 o2=>(Ext.alloc _ _).trans (Ext.alloc _ _);rcases h with h | ⟨rfl,h⟩
 ·have h1:(k == k')=false:=by simpa using h
  have h2:(k != k')=true:=by simp[h]
  clear h
  go_enter Tryz.func46,Tryz.ntmps46
  go_wp2_with fail
  go_ret;exact⟨rfl,zu HE _ _⟩
 ·have h1:(n == n')=false:=by simpa using h
  have h2:(n != n')=true:=by simp[h]
  clear h
  go_enter Tryz.func46,Tryz.ntmps46
  go_wp2_with fail
  go_ret;exact⟨rfl,zu HE _ _⟩
theorem rsame_rc (u v:Option V.RK) (a b:Option Addr) (c e:Nat) (w:World):Calls Tryz.prog 46 #[rcW u a c,rcW v b e] w fun r w'=>r = .returned (.bool (decide (u=v)))∧Ext w w':=by
 by_cases huv:u=v
 ·subst huv
  rw[decide_eq_true rfl];refine rsame_yes _ _ _ ?_ _ _ _ _ _;cases u with
  | none=>kernel_rfl
  | some k =>
   cases k with
   | inl n=>kernel_rfl
   | inr b=>cases b <;> kernel_rfl
 ·rw[decide_eq_false huv]
  refine rsame_no _ _ _ _ _ _ _ _ _ _ _ ?_
  match u,v,huv with
  | none,none,huv=>exact absurd rfl huv
  | some (.inr true),some (.inr true),huv=>exact absurd rfl huv
  | some (.inr false),some (.inr false),huv=>exact absurd rfl huv
  | some (.inl n),some (.inl m),huv=>exact Or.inr ⟨rfl,fun e=>huv (by rw[show n=m from e])⟩
  | none,some (.inl m),_=>exact Or.inl (by show (0:Int)≠1;decide)
  | none,some (.inr true),_=>exact Or.inl (by show (0:Int)≠2;decide)
  | none,some (.inr false),_=>exact Or.inl (by show (0:Int)≠3;decide)
  | some (.inl n),none,_=>exact Or.inl (by show (1:Int)≠0;decide)
  | some (.inl n),some (.inr true),_=>exact Or.inl (by show (1:Int)≠2;decide)
  | some (.inl n),some (.inr false),_=>exact Or.inl (by show (1:Int)≠3;decide)
  | some (.inr true),none,_=>exact Or.inl (by show (2:Int)≠0;decide)
  | some (.inr true),some (.inl m),_=>exact Or.inl (by show (2:Int)≠1;decide)
  | some (.inr true),some (.inr false),_=>exact Or.inl (by show (2:Int)≠3;decide)
  | some (.inr false),none,_=>exact Or.inl (by show (3:Int)≠0;decide)
  | some (.inr false),some (.inl m),_=>exact Or.inl (by show (3:Int)≠1;decide)
  | some (.inr false),some (.inr true),_=>exact Or.inl (by show (3:Int)≠2;decide)
end
section
variable {g:Nat} {w w' w2:World} {h:RHd} {sl cl:List Int} {d:RG} {ka ca ba na ba' na':Option Addr} {kc cc bc nc:Nat}
theorem grown_setR {wa w6:World} {r:Option Nat} {g':Nat} (x:wa.grownBy w6 r) (hw:r=some g'∨wa.heap.size≤g') (i:Nat) (u:Value):wa.grownBy (w6.setCell ⟨g',i,none⟩ u) r :=
 ⟨x.os,x.tape,x.output,by simpa [World.setCell] using x.size,fun k hk hr=>(Below.heap_setCell _ _ _ _ (by
  show k≠g';rintro rfl;rcases hw with hw | hw
  ·exact hr hw.symm
  ·omega)).trans (x.block k hk hr)⟩
theorem RS.pushC {wa w6:World} {g' cap':Nat} {v:Option V.RK} (x:RS g wa h sl cl d ka kc ca cc ba bc na nc) (ho:w6.ownsRow (g+1) 32 5 (.slice (some ⟨g',0,none⟩) (d.cs.length+1) cap') (d.cs.length+1) (d.cs.flatMap V.rcC++V.rcC v)) (hgw:wa.grownBy w6 (Value.slice ca d.cs.length cc).ownBlock) :
  RS g (w6.setCell ⟨g,3,none⟩ (.slice (some ⟨g',0,none⟩) (d.cs.length+1) cap')) h sl cl { d with cs:=d.cs++[v] } ka kc (some ⟨g',0,none⟩) cap' ba bc na nc∧RF g ba na wa (w6.setCell ⟨g,3,none⟩ (.slice (some ⟨g',0,none⟩) (d.cs.length+1) cap')):=by
 have hg:=x.lt;have c1:=x.ok.kept hgw (own_twoM x.ok x.oc (by decide));have c2:=x.ob.kept hgw (own_twoM x.ob x.oc (by decide));have c3:=x.on.kept hgw (own_twoM x.on x.oc (by decide));have hr:=row_growM x.oc hgw x.row;have hl:(d.cs++[v]).length=d.cs.length+1:=by simp
 refine⟨⟨?_,ownsRow_setCell_below c1 (Nat.lt_succ_self g) _,?_,ownsRow_setCell_below c2 (Nat.lt_succ_self g) _,ownsRow_setCell_below c3 (Nat.lt_succ_self g) _,x.ap,(rep_growR x.oc hgw hg x.sl).to (fun b hb=>⟨hb,Below.heap_setCell _ _ _ _ (by show b≠g;omega)⟩),(rep_growR x.oc hgw hg x.cl).to (fun b hb=>⟨hb,Below.heap_setCell _ _ _ _ (by show b≠g;omega)⟩)⟩,(RF.grow x.oc (Or.inr (Or.inl rfl)) hg hgw).set 3 _⟩
 ·have:=row_set hr 3 (.slice (some ⟨g',0,none⟩) (d.cs.length+1) cap')
  rw[hl];exact this
 ·rw[List.flatMap_append,hl]
  exact ownsRow_setCell_below (by simpa using ho) (Nat.lt_succ_self g) _
theorem RS.conAt {j:Nat} {u:Option V.RK} (x:RS g w h sl cl d ka kc ca cc ba bc na nc) (hu:d.cs[j]? = some u):∃ b,ca=some ⟨b,0,none⟩∧w.cell? ⟨b,j * 5,none⟩=some (.int .i64 (V.rcK u))∧w.cell? ⟨b,j * 5+1,none⟩=some (.int .i64 (V.rcN u))∧w.cell? ⟨b,j * 5+2,none⟩=some (.complex .f64 0 (V.rcM u))∧w.cell? ⟨b,j * 5+3,none⟩=some (.string ⟨#[]⟩)∧w.cell? ⟨b,j * 5+4,none⟩=some (.slice none 0 0):=by
 have hf:∀ (l:List (Option V.RK)) (j:Nat) (u:Option V.RK),l[j]? = some u→∀ r z,(V.rcC u)[r]? = some z→(l.flatMap V.rcC)[j * 5+r]? = some z:=by
  intro l
  induction l with
  | nil=>intro j u hu;simp at hu
  | cons y l ih =>
   intro j u hu r z hz;cases j with
   | zero =>
    obtain rfl:y=u:=by simpa using hu
    rw[List.flatMap_cons,Nat.zero_mul,Nat.zero_add,List.getElem?_append_left ((List.getElem?_eq_some_iff.1 hz).1)];exact hz
   | succ j =>
    rw[List.flatMap_cons,show (j+1) * 5+r=(j * 5+r)+5 by omega];exact ih j u (by simpa using hu) r z hz
 have hlt:=(List.getElem?_eq_some_iff.1 hu).1;rcases id x.oc.2 with⟨e,e0⟩ | ⟨b,cap,cur,e,_⟩
 ·exfalso;omega
 ·injection e with e1 _ e3
  subst e1 e3;have k:=fun r z hz=>x.oc.cells (g:=b) rfl (j * 5+r) z (hf d.cs j u hu r z hz);have k0:=k 0 _ rfl;have k1:=k 1 _ rfl;have k2:=k 2 _ rfl;have k3:=k 3 _ rfl;have k4:=k 4 _ rfl;rw[add0] at k0 k1 k2 k3 k4;rw[Nat.add_zero] at k0;exact⟨b,rfl,k0,k1,k2,k3,k4⟩
theorem rIx_step (v:Option V.RK):∀ (l:List (Option V.RK)) (k i:Nat) (u:Option V.RK),l[k]? = some u→rIx v (l.drop k) i=if u=v then some i else rIx v (l.drop (k+1)) (i+1):=by
 intro l k i u hu;obtain⟨h1,h2⟩:=List.getElem?_eq_some_iff.1 hu;rw[List.drop_eq_getElem_cons h1,h2,rIx]
theorem flat5_len:∀ (l:List (Option V.RK)),(l.flatMap V.rcC).length=l.length * 5
 | []=>rfl
 | x :: l=>by rw[List.flatMap_cons,List.length_append,flat5_len l];show 5+l.length * 5=(l.length+1) * 5;omega
theorem own_last {w6:World} {base g2 cap6:Nat} {l:List (Option V.RK)} {v:Option V.RK} (ho:w6.ownsRow base 32 5 (.slice (some ⟨g2,0,none⟩) (l.length+1) cap6) (l.length+1) (l.flatMap V.rcC++V.rcC v)):(∀ r z,(V.rcC v)[r]? = some z→w6.cell? ⟨g2,l.length * 5+r,none⟩=some z)∧(∀ i,w6.frozen? ⟨g2,i,none⟩=false)∧base≤g2:=by
 refine⟨fun r z hz => ?_,?_⟩
 ·have:=ho.cells (g:=g2) rfl (l.length * 5+r) z (by
   rw[List.getElem?_append_right (by rw[flat5_len];omega),flat5_len,Nat.add_sub_cancel_left];exact hz)
  rw[add0] at this;exact this
 ·rcases id ho.2 with⟨e,e0⟩ | ⟨b,cap,cur,e,hb,hg,_⟩
  ·cases e
  ·injection e with e1 _ _
   injection e1 with e1;injection e1 with e1 _ _;subst e1;exact⟨fun i=>rowF hg i,hb⟩
theorem nrm_outR {Q:Exit→Act→World→Prop} {a:Act} {w:World} (h:Q .normal a w):Nrm Q .normal a w:=h
theorem set5_last (L:List Value) (n:Nat) (hn:L.length=n) (a b c d e a' b' c' d' e':Value):(((((L++[a,b,c,d,e]).set n a').set (n+1) b').set (n+2) c').set (n+3) d').set (n+4) e' = L++[a',b',c',d',e']:=by
 subst hn;rw[List.set_append_right _ _ (by omega),List.set_append_right _ _ (by omega),List.set_append_right _ _ (by omega),List.set_append_right _ _ (by omega),List.set_append_right _ _ (by omega)];simp
theorem RS.newC {wa w6:World} {g' cap':Nat} {v:Option V.RK} (x:RS g wa h sl cl d ka kc ca cc ba bc na nc) (ho:w6.ownsRow (g+1) 32 5 (.slice (some ⟨g',0,none⟩) (d.cs.length+1) cap') (d.cs.length+1) (d.cs.flatMap V.rcC++V.rcC none)) (hgw:wa.grownBy w6 (Value.slice ca d.cs.length cc).ownBlock) (hw:(Value.slice ca d.cs.length cc).ownBlock=some g'∨wa.heap.size≤g') :
  RS g ((((((w6.setCell ⟨g',d.cs.length * 5,none⟩ (.int .i64 (V.rcK v))).setCell ⟨g',d.cs.length * 5+1,none⟩ (.int .i64 (V.rcN v))).setCell ⟨g',d.cs.length * 5+2,none⟩ (.complex .f64 0 (V.rcM v))).setCell ⟨g',d.cs.length * 5+3,none⟩ (.string ⟨#[]⟩)).setCell ⟨g',d.cs.length * 5+4,none⟩ (.slice none 0 0)).setCell ⟨g,3,none⟩ (.slice (some ⟨g',0,none⟩) (d.cs.length+1) cap')) h sl cl { d with cs:=d.cs++[v] } ka kc (some ⟨g',0,none⟩) cap' ba bc na nc∧RF g ba na wa ((((((w6.setCell ⟨g',d.cs.length * 5,none⟩ (.int .i64 (V.rcK v))).setCell ⟨g',d.cs.length * 5+1,none⟩ (.int .i64 (V.rcN v))).setCell ⟨g',d.cs.length * 5+2,none⟩ (.complex .f64 0 (V.rcM v))).setCell ⟨g',d.cs.length * 5+3,none⟩ (.string ⟨#[]⟩)).setCell ⟨g',d.cs.length * 5+4,none⟩ (.slice none 0 0)).setCell ⟨g,3,none⟩ (.slice (some ⟨g',0,none⟩) (d.cs.length+1) cap')):=by
 have o5:=own_setM (own_setM (own_setM (own_setM (own_setM ho (d.cs.length * 5) (.int .i64 (V.rcK v))) (d.cs.length * 5+1) (.int .i64 (V.rcN v))) (d.cs.length * 5+2) (.complex .f64 0 (V.rcM v))) (d.cs.length * 5+3) (.string ⟨#[]⟩)) (d.cs.length * 5+4) (.slice none 0 0);rw[set5_last _ _ (flat5_len d.cs)] at o5;have g5:=grown_setR (grown_setR (grown_setR (grown_setR (grown_setR hgw hw (d.cs.length * 5) (.int .i64 (V.rcK v))) hw (d.cs.length * 5+1) (.int .i64 (V.rcN v))) hw (d.cs.length * 5+2) (.complex .f64 0 (V.rcM v))) hw (d.cs.length * 5+3) (.string ⟨#[]⟩)) hw (d.cs.length * 5+4) (.slice none 0 0);exact RS.pushC x o5 g5
end
section
variable {g:Nat} {w w' w2:World} {h:RHd} {sl cl:List Int} {d:RG} {ka ca ba na ba' na':Option Addr} {kc cc bc nc:Nat}
theorem set_two (w:World) (a b:Addr) (u v:Value) (h:a.block≠b.block):(w.setCell a u).setCell b v=(w.setCell b v).setCell a u:=by
 unfold World.setCell;simp only
 congr 1
 apply Array.ext_getElem?;intro i;simp only[Array.getElem?_modify];by_cases h1:a.block=i
 ·have h2:¬ b.block=i:=fun e=>h (h1.trans e.symm)
  simp[h1,h2]
 ·by_cases h2:b.block=i
  ·simp[h1,h2]
  ·simp[h1,h2]
theorem rconst_m (v:Option V.RK) (x:RS g w h sl cl d ka kc ca cc ba bc na nc) (hb:d.code.length≤90000) (hcl:d.cs.length≤90000):Calls Tryz.prog 17 #[.pointer (some ⟨g,0,none⟩),V.rcV v] w (RDone g w h sl cl (d.cst v) ba na):=by
 have hg:=x.lt;have HOk:Hd (∀ W,Calls Tryz.prog 45 #[V.rcV v] W fun e w'=>e = .returned (.bool true)∧Ext W w'):=fun W=>by
  exact V.rok_rc v none 0 W
 have HSm:=zh (fun (u:Option V.RK) (W:World)=>rsame_rc u v none none 0 0 W);obtain⟨Wb,hWb⟩:∃ Wb,Wb=w.alloc (.cells #[.int .i64 (V.rcK v),.int .i64 (V.rcN v),.complex .f64 0 (V.rcM v),.string ⟨#[]⟩,.slice none 0 0] 32):=⟨_,rfl⟩;have xb:Ext w Wb:=by rw[hWb];exact Ext.alloc _ _
 have rb:Wb.heap[w.heap.size]? = some (.cells #[.int .i64 (V.rcK v),.int .i64 (V.rcN v),.complex .f64 0 (V.rcM v),.string ⟨#[]⟩,.slice none 0 0] 32 (0,0)):=by rw[hWb];exact Go.heap_alloc_new w _
 have RB:=zh rb;have XB:=zh xb;have HX:=zh x;have HWb:=zh hWb;have HC:Hd (rIx v (d.cs.drop 0) 0=rIx v d.cs 0):=rfl;clear x xb rb hWb
 go_enter Tryz.func17,Tryz.ntmps17
 go_wp2_with (go_at_call 45;refine Calls.mono (zu HOk _) ?_;rintro e w1 ⟨rfl,hx⟩;rw[← zu HWb] at hx;have X1:=zh ((zu XB).trans hx);have RB1:=zh (hx.row (zu RB));clear hx)
 go_loopw [4] (fun t wr => ∃ (k:Nat),t = .int .i64 k∧k≤d.cs.length∧Hd (rIx v (d.cs.drop k) k=rIx v d.cs 0)∧Hd (Ext w wr)∧Hd (wr.heap[w.heap.size]? = some (.cells #[.int .i64 (V.rcK v),.int .i64 (V.rcN v),.complex .f64 0 (V.rcM v),.string ⟨#[]⟩,.slice none 0 0] 32 (0,0)))) (fun t _=>d.cs.length - (intOf t).toNat)
 case atStart=>exact⟨0,rfl,by omega,HC,X1,RB1⟩
 case round =>
  clear HC X1 RB1;obtain⟨k,rfl,hk,hE,hX,hR⟩:=hrel;have HX1:=zh ((zu HX).ext (zu hX));obtain⟨c3,c4,c6,c7,c8,c9,c10,c11,c12,c13,zf⟩:=rg_c (zu HX1).row;by_cases hlt:k < d.cs.length
  ·have hlt2:(k:Int) < (d.cs.length:Int):=by omega
   obtain⟨u,hu⟩:∃ u,d.cs[k]? = some u:=⟨_,List.getElem?_eq_getElem hlt⟩;obtain⟨cb,rfl,u0,u1,u2,u3,u4⟩:=(zu HX1).conAt hu;have hE2:=zu hE;rw[rIx_step v d.cs k k u hu] at hE2;have hne:Nonempty (RGw wr):=⟨⟨wr,Ext.refl _⟩⟩;have y3:∀ y:RGw wr,y.w.cell? ⟨g,3,none⟩=some (.slice (some ⟨cb,0,none⟩) d.cs.length cc):=fun y=>y.h.cell c3;have v0:∀ y:RGw wr,y.w.cell? ⟨cb,k * 5,none⟩=some (.int .i64 (V.rcK u)):=fun y=>y.h.cell u0;have v1:∀ y:RGw wr,y.w.cell? ⟨cb,k * 5+1,none⟩=some (.int .i64 (V.rcN u)):=fun y=>y.h.cell u1;have v2:∀ y:RGw wr,y.w.cell? ⟨cb,k * 5+2,none⟩=some (.complex .f64 0 (V.rcM u)):=fun y=>y.h.cell u2;have v3:∀ y:RGw wr,y.w.cell? ⟨cb,k * 5+3,none⟩=some (.string ⟨#[]⟩):=fun y=>y.h.cell u3
   have v4:∀ y:RGw wr,y.w.cell? ⟨cb,k * 5+4,none⟩=some (.slice none 0 0):=fun y=>y.h.cell u4;have z0:∀ y:RGw wr,y.w.cell? ⟨w.heap.size,0,none⟩=some (.int .i64 (V.rcK v)):=fun y=>y.h.cell (zr (zu hR) 0 rfl);have z1:∀ y:RGw wr,y.w.cell? ⟨w.heap.size,1,none⟩=some (.int .i64 (V.rcN v)):=fun y=>y.h.cell (zr (zu hR) 1 rfl);have z2:∀ y:RGw wr,y.w.cell? ⟨w.heap.size,2,none⟩=some (.complex .f64 0 (V.rcM v)):=fun y=>y.h.cell (zr (zu hR) 2 rfl);have z3:∀ y:RGw wr,y.w.cell? ⟨w.heap.size,3,none⟩=some (.string ⟨#[]⟩):=fun y=>y.h.cell (zr (zu hR) 3 rfl);have z4:∀ y:RGw wr,y.w.cell? ⟨w.heap.size,4,none⟩=some (.slice none 0 0):=fun y=>y.h.cell (zr (zu hR) 4 rfl);by_cases huv:u=v
   ·rw[if_pos huv] at hE2
    have HS1:Hd (∀ W,Calls Tryz.prog 46 #[rcW u none 0,rcW v none 0] W fun r w'=>r = .returned (.bool true)∧Ext W w'):=fun W=>by
     have:=zu HSm u W;rw[decide_eq_true huv] at this;exact this
    have hcst:d.cst v=d.add 1 (k:Int) 0:=by unfold RG.cst;rw[← hE2]
    rw[hcst];have HAd:=zh (fun (W:World) (y:Ext w W)=>radd_m ((zu HX).ext y) (by omega) 1 (k:Int) 0);clear hE2 hcst huv u0 u1 u2 u3 u4 hu c4 c6 c7 c8 c9 c10 c11 c12 c13 zf
    go_wp2_with fail
    refine wp_region_rx (W:=wr) (by kernel_rfl) (by kernel_rfl) (Ext.refl _) ?_
    repeat (go_big_quiet_step ((go_at_call 46;exact Calls.rx_of _ _ (zu HS1 _))))
    refine wpQuiet_nil ?_;rintro w4 ⟨⟨_,hx4⟩,rfl⟩;have X4:=zh ((zu hX).trans hx4);clear hx4
    go_wp2_with (go_at_call 18;refine Calls.mono (zu HAd _ (zu X4)) ?_;rintro e w5 ⟨rfl,hr⟩;have R5:=zh hr;clear hr)
    exact bodyPost_ret (v:=.tuple #[]) (by simp[results,Tryz.results17]) rfl ⟨rfl,RGAns.on (RF.of hg (zu X4)) (zu R5)⟩
   ·rw[if_neg huv] at hE2
    have HS1:Hd (∀ W,Calls Tryz.prog 46 #[rcW u none 0,rcW v none 0] W fun r w'=>r = .returned (.bool false)∧Ext W w'):=fun W=>by
     have:=zu HSm u W;rw[decide_eq_false huv] at this;exact this
    have HE2:=zh hE2;clear hE2 huv u0 u1 u2 u3 u4 hu c4 c6 c7 c8 c9 c10 c11 c12 c13 zf
    go_wp2_with fail
    refine wp_region_rx (W:=wr) (by kernel_rfl) (by kernel_rfl) (Ext.refl _) ?_
    repeat (go_big_quiet_step ((go_at_call 46;exact Calls.rx_of _ _ (zu HS1 _))))
    refine wpQuiet_nil ?_;rintro w4 ⟨⟨_,hx4⟩,rfl⟩;have X4:=zh ((zu hX).trans hx4);have R4:=zh (hx4.row (zu hR));clear hx4
    go_wp2_with fail
    go_roundw
    case rel=>exact⟨k+1,by go_num,by omega,HE2,X4,R4⟩
    case measure=>simp[intOf];omega
  ·have hkf:¬ (k:Int) < (d.cs.length:Int):=by omega
   have hkn:k=d.cs.length:=by omega
   have hix:rIx v d.cs 0=none:=by
    rw[← zu hE,hkn,List.drop_length];rfl
   have HCst:Hd (d.cst v=({ d with cs:=d.cs++[v] }:RG).add 1 (d.cs.length:Int) 0):=by unfold Hd RG.cst;rw[hix]
   clear hix hE hlt hk;obtain⟨i0,hi,hz0,hz1,hz2⟩:=info_parts infoVv;have HI:=zh hi;have Z0:=zh hz0;have Z1:=zh hz1;have Z2:=zh hz2;clear hi hz0 hz1 hz2;have b0:=zr (zu hR) 0 rfl;have b1:=zr (zu hR) 1 rfl;have b2:=zr (zu hR) 2 rfl;have b3:=zr (zu hR) 3 rfl;have b4:=zr (zu hR) 4 rfl;have hgw:g < wr.heap.size:=(zu HX1).lt;have hgn:g≠wr.heap.size:=by omega
   have hww:w.heap.size < wr.heap.size:=(Array.getElem?_eq_some_iff.1 (zu hR)).1;have hwn:w.heap.size≠wr.heap.size:=by omega
   have HA:Hd (∀ ob,RS g ((wr.alloc ob).drew) h sl cl d ka kc ca cc ba bc na nc):=fun ob=>(zu HX1).ext (Ext.drew (Ext.alloc _ ob))
   go_wp2_with fail
   refine wp_nrm ?_
   go_region_law (first
    | (refine step_append_where rfl (.tmp 38) (.tmp 41) 30 rfl (g+1) 32 i0 (.agg #[.int .i64 0,.int .i64 0,.complex .f64 0 0,.string ⟨#[]⟩,.slice none 0 0]) 5 72 Tryz.underlying30 (zu HI) (zu Z0) (zu Z1) (zu Z2) rfl (by decide) ca d.cs.length cc (d.cs.flatMap V.rcC) (by simp[Act.eval,Act.put]) (zu HA _).oc ⟨wr.heap.size,0,none⟩ 1 1 (V.rcC none) (by simp[Act.eval,Act.put]) (by decide) rfl (cells_new wr _ _) (V.one_rc _) (by unfold maxLen;omega) (by omega) (by simp;omega) ?_;intro g2 cap6 w6 ho6 hg6 hw6;have hrow6:=row_growM (zu HA _).oc hg6 (zu HA _).row;obtain⟨z3,z4,z6,z7,z8,z9,z10,z11,z12,z13,zzf⟩:=rg_c hrow6;have HO6:=zh ho6;have HG6:=zh hg6;have HW6:=zh hw6;obtain⟨lc9,lf9,hb9⟩:=own_last ho6;have l0:w6.cell? ⟨g2,d.cs.length * 5,none⟩=some (.int .i64 0):=lc9 0 _ rfl;have l1:w6.cell? ⟨g2,d.cs.length * 5+1,none⟩=some (.int .i64 0):=lc9 1 _ rfl;have l2:w6.cell? ⟨g2,d.cs.length * 5+2,none⟩=some (.complex .f64 0 0):=lc9 2 _ rfl;have l3:w6.cell? ⟨g2,d.cs.length * 5+3,none⟩=some (.string ⟨#[]⟩):=lc9 3 _ rfl;have l4:w6.cell? ⟨g2,d.cs.length * 5+4,none⟩=some (.slice none 0 0):=lc9 4 _ rfl;have hidx:(d.cs.length:Int) < (d.cs.length:Int)+1:=(by omega);have hidx2:d.cs.length < d.cs.length+1:=(by omega);have hgg:g≠g2:=(by omega);have hgg2:g2≠g:=(by omega);clear ho6 hg6 hw6 hrow6 lc9))
   all_goals
    have hN:=RS.newC (v:=v) (zu HA _) (zu HO6) (zu HG6) (by simpa using zu HW6)
    try rw[set_two _ ⟨g,3,none⟩ ⟨g2,d.cs.length * 5,none⟩ _ _ hgg,set_two _ ⟨g,3,none⟩ ⟨g2,d.cs.length * 5+1,none⟩ _ _ hgg,set_two _ ⟨g,3,none⟩ ⟨g2,d.cs.length * 5+2,none⟩ _ _ hgg,set_two _ ⟨g,3,none⟩ ⟨g2,d.cs.length * 5+3,none⟩ _ _ hgg,set_two _ ⟨g,3,none⟩ ⟨g2,d.cs.length * 5+4,none⟩ _ _ hgg]
    generalize hWn:(((((w6.setCell ⟨g2,d.cs.length * 5,none⟩ (.int .i64 (V.rcK v))).setCell ⟨g2,d.cs.length * 5+1,none⟩ (.int .i64 (V.rcN v))).setCell ⟨g2,d.cs.length * 5+2,none⟩ (.complex .f64 0 (V.rcM v))).setCell ⟨g2,d.cs.length * 5+3,none⟩ (.string ⟨#[]⟩)).setCell ⟨g2,d.cs.length * 5+4,none⟩ (.slice none 0 0)).setCell ⟨g,3,none⟩ (.slice (some ⟨g2,0,none⟩) (d.cs.length+1) cap6)=Wn at hN ⊢;have FP:=zh ((RF.of hg ((zu hX).trans (Ext.drew (Ext.alloc wr _)))).trans hN.2 (RNew.refl w ba) (RNew.refl w na));have q3:=(rg_c hN.1.row).1;simp only[List.length_append,List.length_cons,List.length_nil] at q3;have HAd:=zh (radd_m hN.1 (by show d.code.length≤100000;omega) 1 (d.cs.length:Int) 0);clear hN hWn z3 z4 z6 z7 z8 z9 z10 z11 z12 z13 zzf l0 l1 l2 l3 l4 lf9 b0 b1 b2 b3 b4 c3 c4 c6 c7 c8 c9 c10 c11 c12 c13 zf HO6 HG6 HW6 HA HX1 hR HI Z0 Z1 Z2
    refine nrm_outR ?_
    go_wp2_with (go_at_call 18;refine Calls.mono (zu HAd) ?_;rintro e w9 ⟨rfl,hr⟩;have R9:=zh hr;clear hr)
    go_end0
    exact⟨rfl,by rw[zu HCst];exact RGAns.on (zu FP) (zu R9)⟩
end
section
variable {g:Nat} {w w0 w' w2:World} {h:RHd} {sl cl:List Int} {d d':RG} {ba na:Option Addr}
theorem RGAns.rf (x:RGAns g w0 h sl cl d ba na w):RF g ba na w0 w:=by
 obtain⟨_,_,_,_,_,_,_,_,_,f,_⟩:=x;exact f
theorem RGAns.ext (x:RGAns g w0 h sl cl d ba na w) (k:Ext w w'):RGAns g w0 h sl cl d ba na w':=by
 obtain⟨ka,kc,ca,cc,ba',bc,na',nc,s,f,n1,n2⟩:=x;exact⟨ka,kc,ca,cc,ba',bc,na',nc,s.ext k,f.trans (RF.of s.lt k) n1 n2,n1,n2⟩
theorem RGAns.lift {F:FuncId} {args:Array Value} {r:Ending} (x:RGAns g w0 h sl cl d ba na w) (H:∀ {ka kc ca cc ba' bc na' nc},RS g w h sl cl d ka kc ca cc ba' bc na' nc→Calls Tryz.prog F args w fun e w'=>e=r∧RGAns g w h sl cl d' ba' na' w'):Calls Tryz.prog F args w fun e w'=>e=r∧RGAns g w0 h sl cl d' ba na w':=by
 obtain⟨ka,kc,ca,cc,ba',bc,na',nc,s,f,n1,n2⟩:=x;refine Calls.mono (H s) ?_;rintro e w' ⟨rfl,ka2,kc2,ca2,cc2,ba2,bc2,na2,nc2,s2,f2,m1,m2⟩;exact⟨rfl,ka2,kc2,ca2,cc2,ba2,bc2,na2,nc2,s2,f.trans f2 n1 n2,n1.trans m1 f.size,n2.trans m2 f.size⟩
theorem rok_parts {m:RG} (h:m.ok=true):m.code.length≤50000∧m.cs.length≤50000∧(0≤m.tk∧m.tk≤50000)∧m.cs.all V.rcB=true∧(m.sp≤50000∧m.cp≤50000∧m.br.length≤50000∧m.nx.length≤50000)∧(∀ j ∈ m.br,j < m.code.length)∧(∀ j ∈ m.nx,j < m.code.length):=by
 unfold RG.ok at h;rw[Bool.and_eq_true,Bool.and_eq_true,Bool.and_eq_true,Bool.and_eq_true,Bool.and_eq_true,Bool.and_eq_true] at h;obtain⟨h1,h2,h3,h4,h5,h6,h7⟩:=h;refine⟨of_decide_eq_true h1,of_decide_eq_true h2,of_decide_eq_true h3,h4,of_decide_eq_true h5,?_,?_⟩
 ·intro j hj;exact of_decide_eq_true (List.all_eq_true.1 h6 j hj)
 ·intro j hj;exact of_decide_eq_true (List.all_eq_true.1 h7 j hj)
theorem rG_some {m m':RG} (h:rG m=some m'):m=m'∧m'.ok=true:=by
 unfold rG at h
 split at h
 ·rename_i e;injection h with h;subst h;exact⟨rfl,e⟩
 ·cases h
theorem radd_k (x:RGAns g w0 h sl cl d ba na w) (hb:d.code.length≤90000) (op a b:Int):Calls Tryz.prog 18 #[.pointer (some ⟨g,0,none⟩),.int .i64 op,.int .i64 a,.int .i64 b] w fun e w'=>e = .returned (.int .i64 (d.code.length:Int))∧RGAns g w0 h sl cl (d.add op a b) ba na w':=x.lift (fun s=>radd_m s (by omega) op a b)
theorem rtick_k (x:RGAns g w0 h sl cl d ba na w) (hb:d.code.length≤90000) (ht:0≤d.tk∧d.tk≤1000000):Calls Tryz.prog 68 #[.pointer (some ⟨g,0,none⟩)] w (RDone g w0 h sl cl d.tick ba na):=x.lift (fun s=>rtick_m s (by omega) ht)
theorem rslot_k (x:RGAns g w0 h sl cl d ba na w) (hb:d.sp≤90000) (k:Int) (hk:sl[d.sp]? = some k):Calls Tryz.prog 41 #[.pointer (some ⟨g,0,none⟩)] w fun e w'=>e = .returned (.int .i64 k)∧RGAns g w0 h sl cl { d with sp:=d.sp+1 } ba na w':=x.lift (fun s=>rslot_m s (by omega) k hk)
theorem rland_k (x:RGAns g w0 h sl cl d ba na w) (hb:d.code.length≤90000) (l:List Nat) (la:Option Addr) (lc:Nat) (hl:∀ j ∈ l,j < d.code.length) (hla:NumAt w l la) (hll:l.length≤90000):Calls Tryz.prog 42 #[.pointer (some ⟨g,0,none⟩),.slice la l.length lc] w (RDone g w0 h sl cl (d.land l) ba na):=x.lift (fun s=>rland_m s (by omega) l la lc hl hla (by omega))
theorem rconst_k (v:Option V.RK) (x:RGAns g w0 h sl cl d ba na w) (hb:d.code.length≤90000) (hcl:d.cs.length≤90000):Calls Tryz.prog 17 #[.pointer (some ⟨g,0,none⟩),V.rcV v] w (RDone g w0 h sl cl (d.cst v) ba na):=x.lift (fun s=>rconst_m v s hb hcl)
theorem add_len (m:RG) (op a b:Int):(m.add op a b).code.length=m.code.length+1:=by simp[RG.add]
theorem land_len (m:RG) (l:List Nat):(m.land l).code.length=m.code.length:=ldK_len _ _ _
theorem cst_len (m:RG) (v:Option V.RK):(m.cst v).code.length=m.code.length+1:=by
 unfold RG.cst
 split <;> simp[RG.add]
theorem cst_cs (m:RG) (v:Option V.RK):(m.cst v).cs.length≤m.cs.length+1:=by
 unfold RG.cst
 split <;> simp[RG.add]
theorem rtick_len (m:RG):m.tick.code.length=m.code.length+1:=by simp[RG.tick,RG.add]
theorem dec_len (m:RG) (a b:Int) (l:List Nat):(m.dec a b l).code.length=m.code.length+3:=by
 unfold RG.dec;rw[land_len,cst_len,land_len,add_len,cst_len]
end
section
variable {g:Nat} {w w0 w1 w' w2:World} {h:RHd} {sl cl:List Int} {d d':RG} {ka ca ba na:Option Addr} {kc cc bc nc:Nat}
theorem RS.refl (s:RS g w h sl cl d ka kc ca cc ba bc na nc):RGAns g w h sl cl d ba na w:=⟨ka,kc,ca,cc,ba,bc,na,nc,s,RF.refl _ _ _ _,RNew.refl _ _,RNew.refl _ _⟩
theorem RGAns.repL (x:RGAns g w0 h sl cl d ba na w) {l:List PN} {a:Option Addr} (hr:RepNL w0 (fun b=>b < g) l a):RepNL w (fun b=>b < g) l a:=RepNL.to (fun b hb=>⟨hb,x.rf.low b hb⟩) l a hr
structure BxK (g:Nat) (ba na:Option Addr) (w:World) (B:Nat) (k o:Int) (s:ByteArray) (n:Int) (v:Value):Prop where
 row:w.heap[B]? = some (nodO k o s n v)
 ne:B≠g
 nb:V.obk ba≠some B
 nn:V.obk na≠some B
theorem BxK.at {B:Nat} {k o n:Int} {s:ByteArray} {v:Value} (b:BxK g ba na w1 B k o s n v) (x:RGAns g w1 h sl cl d ba na w):w.heap[B]? = some (nodO k o s n v):=x.rf.typ B _ _ _ b.row b.ne (by decide) (by decide) b.nb b.nn
theorem BxK.c {B:Nat} {k o n:Int} {s:ByteArray} {v:Value} (b:BxK g ba na w1 B k o s n v) (x:RGAns g w1 h sl cl d ba na w):w.cell? ⟨B,0,none⟩=some (.int .i64 k)∧w.cell? ⟨B,1,none⟩=some (.int .i64 o)∧w.cell? ⟨B,2,none⟩=some (.string s)∧w.cell? ⟨B,3,none⟩=some (.int .i64 n)∧w.cell? ⟨B,4,none⟩=some v :=
 ⟨zr (b.at x) 0 rfl,zr (b.at x) 1 rfl,zr (b.at x) 2 rfl,zr (b.at x) 3 rfl,zr (b.at x) 4 rfl⟩
theorem obk_any (a:Option Addr) (n c:Nat):(Value.slice a n c).ownBlock=V.obk a:=by cases a <;> rfl
theorem RS.blk (s:RS g w h sl cl d ka kc ca cc ba bc na nc):V.obk ba≠some w.heap.size∧V.obk na≠some w.heap.size:=by
 refine⟨fun e => ?_,fun e => ?_⟩
 ·have:=(s.ob.lt w.heap.size ((obk_any _ _ _).trans e)).2;omega
 ·have:=(s.on.lt w.heap.size ((obk_any _ _ _).trans e)).2;omega
theorem RS.box (s:RS g w h sl cl d ka kc ca cc ba bc na nc) (k o:Int) (t:ByteArray) (n:Int) (v:Value):RGAns g (w.alloc (nodO k o t n v)) h sl cl d ba na (w.alloc (nodO k o t n v))∧BxK g ba na (w.alloc (nodO k o t n v)) w.heap.size k o t n v∧RF g ba na w (w.alloc (nodO k o t n v)) :=
 ⟨(s.ext (Ext.alloc _ _)).refl,⟨Go.heap_alloc_new w _,by have:=s.lt;omega,s.blk.1,s.blk.2⟩,RF.of s.lt (Ext.alloc _ _)⟩
def NdOk (g:Nat) (h:RHd) (sl cl:List Int) (nd:PN→RG→Option RG):Prop:=∀ (x:PN) (d d':RG),nd x d=some d'→d.ok=true→∀ (w:World) (ka:Option Addr) (kc:Nat) (ca:Option Addr) (cc:Nat) (ba:Option Addr) (bc:Nat) (na:Option Addr) (nc:Nat) (v:Value),RS g w h sl cl d ka kc ca cc ba bc na nc→RepN w (fun b=>b < g) x v→Calls Tryz.prog 16 #[.pointer (some ⟨g,0,none⟩),v] w (RDone g w h sl cl d' ba na)
def NdP (nd:PN→RG→Option RG):Prop:=∀ (x:PN) (m m':RG),nd x m=some m'→m.code.length≤m'.code.length∧(m.ok=true→m'.ok=true)
theorem NdOk.k {nd:PN→RG→Option RG} (I:NdOk g h sl cl nd) {x:PN} (e:nd x d=some d') (ho:d.ok=true) {v:Value} (a:RGAns g w0 h sl cl d ba na w) (hr:RepN w (fun b=>b < g) x v):Calls Tryz.prog 16 #[.pointer (some ⟨g,0,none⟩),v] w (RDone g w0 h sl cl d' ba na):=a.lift (fun s=>I x d d' e ho w _ _ _ _ _ _ _ _ v s hr)
theorem rAll_both {nd:PN→RG→Option RG} (P:NdP nd):∀ (l:List PN) (m m':RG),rAll nd l m=some m'→m.code.length≤m'.code.length∧(m.ok=true→m'.ok=true)
 | [],m,m',e=>by rw[rAll] at e;injection e with e;subst e;exact⟨Nat.le_refl _,id⟩
 | x :: r,m,m',e=>by
  rw[rAll] at e;cases hq:nd x m with
  | none=>rw[hq] at e;cases e
  | some m1 =>
   rw[hq] at e;have h1:=P x m m1 hq;have h2:=rAll_both P r m1 m' e;exact⟨Nat.le_trans h1.1 h2.1,fun o=>h2.2 (h1.2 o)⟩
theorem rall_m {nd:PN→RG→Option RG} (I:NdOk g h sl cl nd) (P:NdP nd) (l:List PN) (e:rAll nd l d=some d') (ho:d.ok=true) (hl:l.length≤1000000) (a:Option Addr) (cap:Nat) (x:RGAns g w0 h sl cl d ba na w) (hr:RepNL w0 (fun b=>b < g) l a) :
  Calls Tryz.prog 40 #[.pointer (some ⟨g,0,none⟩),.slice a l.length cap] w (RDone g w0 h sl cl d' ba na):=by
 have HI:=zh I;have HP:=zh P;have HR:=zh hr;have HX:=zh x;have HE:=zh e;have HO:=zh ho;clear I P hr x e ho;generalize hLL:l.length=M at *;have HM:=zh hLL;clear hLL
 go_enter Tryz.func40,Tryz.ntmps40
 go_wp2_with fail
 go_loopw [4] (fun t wr => ∃ (j:Nat) (mj:RG),t = .int .i64 (j:Int)∧j≤M∧Hd (RGAns g w0 h sl cl mj ba na wr)∧Hd (rAll nd (l.drop j) mj=some d')∧Hd (mj.ok=true)) (fun t _=>M - (intOf t).toNat)
 case atStart=>exact⟨0,d,rfl,by omega,HX,by simpa [Hd] using HE,HO⟩
 case round =>
  clear HX HE HO;obtain⟨j,mj,rfl,hj,hX,hE,hO⟩:=hrel;by_cases hlt:j < M
  ·have hlt2:(j:Int) < (M:Int):=by omega
   have hlt3:j < l.length:=by rw[zu HM];exact hlt
   obtain⟨q,hq⟩:∃ q,l[j]? = some q:=⟨_,List.getElem?_eq_getElem hlt3⟩;have hEq:=zu hE;rw[List.drop_eq_getElem_cons hlt3,(List.getElem?_eq_some_iff.1 hq).2,rAll] at hEq;cases hx:nd q mj with
   | none=>rw[hx] at hEq;cases hEq
   | some m1 =>
    rw[hx] at hEq;have HE1:=zh hEq;have HO1:=zh ((zu HP q mj m1 hx).2 (zu hO));obtain⟨b,off,c0,c1,c2,c3,c4,rfl,hb,hrq,k0,k1,k2,k3,k4⟩:=repNL_at ((zu hX).repL (zu HR)) j q hq;have HC:=zh ((zu HI).k hx (zu hO) (zu hX) hrq);clear hEq hx hq hrq hE hO hlt3
    go_wp2_with (go_at_call 16;refine Calls.mono (zu HC) ?_;rintro e w5 ⟨rfl,hr5⟩;have R5:=zh hr5;clear hr5)
    go_roundw
    case rel=>exact⟨j+1,m1,by go_num,by omega,R5,HE1,HO1⟩
    case measure=>simp[intOf];omega
  ·have hkf:¬ (j:Int) < (M:Int):=by omega
   have hjM:j=M:=by omega
   have hEq:=zu hE;rw[hjM,← zu HM,List.drop_length,rAll] at hEq;injection hEq with hEq;have HX2:Hd (RGAns g w0 h sl cl d' ba na wr):=by rw[← hEq];exact zu hX
   clear hEq hE hX
   go_wp2_with fail
   go_end0
   exact⟨rfl,zu HX2⟩
structure Kid (g:Nat) (w:World) (b o:Nat) (c0 c1 c2 c3 c4:Value) (q:PN):Prop where
 low:b < g
 c:w.cell? ⟨b,o,none⟩=some c0∧w.cell? ⟨b,o+1,none⟩=some c1∧w.cell? ⟨b,o+2,none⟩=some c2∧w.cell? ⟨b,o+3,none⟩=some c3∧w.cell? ⟨b,o+4,none⟩=some c4
 rep:RepN w (fun b=>b < g) q (.agg #[c0,c1,c2,c3,c4])
theorem Kid.at {b o:Nat} {c0 c1 c2 c3 c4:Value} {q:PN} (k:Kid g w0 b o c0 c1 c2 c3 c4 q) (x:RGAns g w0 h sl cl d ba na w):Kid g w b o c0 c1 c2 c3 c4 q:=by
 have e:∀ o,w.cell? ⟨b,o,none⟩=w0.cell? ⟨b,o,none⟩:=fun o=>World.cell?_of_block (w:=w0) (x.rf.low b k.low);exact⟨k.low,by rw[e,e,e,e,e];exact k.c,RepN.to (fun b hb=>⟨hb,x.rf.low b hb⟩) _ _ k.rep⟩
theorem kids2 {p q:PN} {a:Option Addr} (hr:RepNL w (fun b=>b < g) [p,q] a):∃ b o p0 p1 p2 p3 p4 q0 q1 q2 q3 q4,a=some ⟨b,o,none⟩∧Kid g w b o p0 p1 p2 p3 p4 p∧Kid g w b (o+5) q0 q1 q2 q3 q4 q:=by
 obtain⟨b,o,p0,p1,p2,p3,p4,rfl,hb,hp,e0,e1,e2,e3,e4⟩:=repNL_at hr 0 p rfl;obtain⟨b',o',q0,q1,q2,q3,q4,e,hb',hq,f0,f1,f2,f3,f4⟩:=repNL_at hr 1 q rfl;injection e with e;injection e with ea eb _;subst ea eb;simp only[Nat.zero_mul,Nat.add_zero,Nat.one_mul] at e0 e1 e2 e3 e4 f0 f1 f2 f3 f4;exact⟨b,o,p0,p1,p2,p3,p4,q0,q1,q2,q3,q4,rfl,⟨hb,⟨e0,e1,e2,e3,e4⟩,hp⟩,⟨hb,⟨f0,f1,f2,f3,f4⟩,hq⟩⟩
end
end Go.Proofs.YtjnpehohialmbaaGreat
