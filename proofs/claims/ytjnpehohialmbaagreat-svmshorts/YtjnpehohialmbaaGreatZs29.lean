/- What an instruction takes and leaves,and where it leads,as the program and the document tell it. -/
import Derived.ScopeJumps
import Derived.Test.YtjnpehohialmbaaGreatZs28
set_option linter.unusedSimpArgs false
set_option linter.unusedVariables false
set_option maxRecDepth 10000
set_option maxHeartbeats 2000000
namespace Go.Proofs.YtjnpehohialmbaaGreat
open Go.RowKit
namespace V
theorem isPlace_any (k n:Int) (w:World):Calls Tryz.prog 20 #[.int .i64 k,.int .i64 n] w fun e w'=>e = .returned (.bool (decide (0≤k∧k < n)))∧w' = w:=by
 by_cases h1:0≤k
 ·by_cases h2:k < n
  ·go_enter Tryz.func20,Tryz.ntmps20
   go_wp2_with fail
   go_ret;exact⟨ret_bool (by simp[h1,h2]),rfl⟩
  ·go_enter Tryz.func20,Tryz.ntmps20
   go_wp2_with fail
   go_ret;exact⟨ret_bool (by simp[h1,h2]),rfl⟩
 ·go_enter Tryz.func20,Tryz.ntmps20
  go_wp2_with fail
  go_ret;exact⟨ret_bool (by simp;omega),rfl⟩
theorem arityK (op:Int) (w:World):Calls Tryz.prog 109 #[.int .i64 op] w fun e w'=>e = .returned (.int .i64 (kAr op))∧w' = w:=by
 have h:(1≤op∧op≤14)∨(15≤op∧op≤20)∨op < 1∨20 < op:=by omega
 rcases h with⟨h1,h2⟩ | ⟨h1,h2⟩ | h1 | h1
 ·have e:kAr op=2:=by unfold kAr;rw[if_pos ⟨h1,h2⟩]
  rw[e];clear e
  go_enter Tryz.func109,Tryz.ntmps109
  go_wp2_with fail
  go_ret;exact⟨rfl,rfl⟩
 ·have e:kAr op=1:=by unfold kAr;rw[if_neg (by omega),if_pos ⟨h1,h2⟩]
  rw[e];clear e;have h3:¬ op≤14:=by omega
  have h4:1≤op:=by omega
  go_enter Tryz.func109,Tryz.ntmps109
  go_wp2_with fail
  go_ret;exact⟨rfl,rfl⟩
 ·have e:kAr op=0:=by unfold kAr;rw[if_neg (by omega),if_neg (by omega)]
  rw[e];clear e;have h3:¬ 1≤op:=by omega
  have h4:¬ 15≤op:=by omega
  go_enter Tryz.func109,Tryz.ntmps109
  go_wp2_with fail
  go_ret;exact⟨rfl,rfl⟩
 ·have e:kAr op=0:=by unfold kAr;rw[if_neg (by omega),if_neg (by omega)]
  rw[e];clear e;have h3:¬ op≤14:=by omega
  have h4:1≤op:=by omega
  have h5:15≤op:=by omega
  have h6:¬ op≤20:=by omega
  go_enter Tryz.func109,Tryz.ntmps109
  go_wp2_with fail
  go_ret;exact⟨rfl,rfl⟩
theorem pops_any (i:KI) (w:World):Calls Tryz.prog 104 #[kiV i] w fun e w'=>e = .returned (.int .i64 (kPops i))∧Ext w w':=by
 obtain⟨o,a,b⟩:=i;rcases op_cases o with rfl | rfl | rfl | rfl | rfl | rfl | rfl | rfl | rfl | rfl | rfl | rfl | rfl | ⟨h1,h2,h3,h4,h5,h6,h7,h8,h9,h10,h11,h12,h13⟩
 case inr.inr.inr.inr.inr.inr.inr.inr.inl =>
  by_cases hb:b < 0
  all_goals
   go_enter Tryz.func104,Tryz.ntmps104
   go_wp2_with fail
   go_ret;exact⟨by simp[kPops,hb];try omega,Ext.alloc _ _⟩
 case inr.inr.inr.inr.inr.inr.inr.inr.inr.inr.inr.inr.inl =>
  by_cases hb:a < 0
  all_goals
   go_enter Tryz.func104,Tryz.ntmps104
   go_wp2_with fail
   go_ret;exact⟨by simp[kPops,hb];try omega,Ext.alloc _ _⟩
 all_goals
  go_enter Tryz.func104,Tryz.ntmps104
  go_wp2_with fail
  go_ret;exact⟨by simp[kPops, *],Ext.alloc _ _⟩
theorem pushes_any (i:KI) (w:World):Calls Tryz.prog 106 #[kiV i] w fun e w'=>e = .returned (.int .i64 (kPush i))∧Ext w w':=by
 obtain⟨o,a,b⟩:=i;rcases op_cases o with rfl | rfl | rfl | rfl | rfl | rfl | rfl | rfl | rfl | rfl | rfl | rfl | rfl | ⟨h1,h2,h3,h4,h5,h6,h7,h8,h9,h10,h11,h12,h13⟩
 all_goals
  go_enter Tryz.func106,Tryz.ntmps106
  go_wp2_with fail
  go_ret;exact⟨by simp[kPush, *],Ext.alloc _ _⟩
def NextIs (l:List KI) (k:Int) (w:World):Ending→World→Prop:=fun e w' => ∃ b c,e = .returned (.slice b (kNext l k).length c)∧(kNext l k).length≤c∧RepZ w' (Fr2 w w') b (kNext l k)∧Ext w w'
theorem both_ways (a b:Int) (w:World):Calls Tryz.prog 124 #[.int .i64 a,.int .i64 b] w fun e w' => ∃ x c,e = .returned (.slice x (kBoth a b).length c)∧(kBoth a b).length≤c∧RepZ w' (Fr2 w w') x (kBoth a b)∧Ext w w':=by
 rcases Int.lt_trichotomy a b with h | h | h
 ·have h1:¬ a=b:=by omega
  rw[show kBoth a b = [a,b] by unfold kBoth;rw[if_neg h1,if_pos h]]
  go_enter Tryz.func124,Tryz.ntmps124
  go_wp2_with fail
  go_ret;exact⟨_,_,rfl,by simp,repZ_two _ _ _ _,Ext.alloc _ _⟩
 ·subst h
  rw[show kBoth a a = [a] by unfold kBoth;rw[if_pos rfl]]
  go_enter Tryz.func124,Tryz.ntmps124
  go_wp2_with fail
  go_ret;exact⟨_,_,rfl,by simp,repZ_one _ _ _,Ext.alloc _ _⟩
 ·have h1:¬ a=b:=by omega
  have h2:¬ a < b:=by omega
  rw[show kBoth a b = [b,a] by unfold kBoth;rw[if_neg h1,if_neg h2]]
  go_enter Tryz.func124,Tryz.ntmps124
  go_wp2_with fail
  go_ret;exact⟨_,_,rfl,by simp,repZ_two _ _ _ _,Ext.alloc _ _⟩
theorem kLed_brz (a b k:Int):kLed ⟨8,a,b⟩ k=kBoth a (k+1):=by
 simp[kLed]
theorem next_any (l:List KI) (k:Int) (a:Option Addr) (cap:Nat) (w:World) (h:RepC w (In w) a l) (hl:l.length≤1000000) :
  Calls Tryz.prog 105 #[.slice a l.length cap,.int .i64 k] w (NextIs l k w):=by
 by_cases hk:k < 0∨(l.length:Int)≤k
 ·have e:=kNext_out hk
  have P:=fun w'=>isPlace_any k l.length w';rw[decide_eq_false (by omega)] at P;have PP:=zh P;have E:=zh e;clear P hk e
  go_enter Tryz.func105,Tryz.ntmps105
  go_wp2_with (go_at_call 20;refine Calls.mono (zu PP _) ?_;rintro e w1 ⟨rfl,rfl⟩)
  go_ret;unfold NextIs;rw[zu E];exact⟨_,_,rfl,by simp,Or.inl rfl,Ext.refl _⟩
 ·obtain⟨j,rfl⟩:∃ j:Nat,k=j:=⟨k.toNat,by omega⟩
  have hj:j < l.length:=by omega
  obtain⟨i,hi⟩:∃ i,l[j]? = some i:=⟨_,List.getElem?_eq_getElem hj⟩;have hn:=kNext_at hi;obtain⟨b,o,rfl,hf,c0,c1,c2⟩:=h.at hi;unfold NextIs;rw[hn];have P:=fun w'=>isPlace_any (j:Int) l.length w';rw[decide_eq_true (by omega)] at P;have PP:=zh P;clear P hk hn hi h;generalize l.length=N at *;obtain⟨p,x,y⟩:=i;simp only at c0 c1 c2;rcases op_cases p with rfl | rfl | rfl | rfl | rfl | rfl | rfl | rfl | rfl | rfl | rfl | rfl | rfl | ⟨h1,h2,h3,h4,h5,h6,h7,h8,h9,h10,h11,h12,h13⟩
  case inr.inr.inr.inr.inr.inr.inr.inl =>
   have BW:=zh (fun w'=>both_ways x ((j:Int)+1) w');rw[kLed_brz]
   go_enter Tryz.func105,Tryz.ntmps105
   go_wp2_with (first | (go_at_call 20;refine Calls.mono (zu PP _) ?_;rintro e w1 ⟨rfl,rfl⟩) | (go_at_call 124;refine Calls.mono (zu BW _) ?_;rintro e w1 ⟨b1,c1,rfl,q1,q2,q3⟩;have Q1:=zh q1;have Q2:=zh q2;have Q3:=zh q3;clear q1 q2 q3))
   go_ret;exact⟨_,_,rfl,zu Q1,zu Q2,zu Q3⟩
  all_goals
   go_enter Tryz.func105,Tryz.ntmps105
   go_wp2_with (go_at_call 20;refine Calls.mono (zu PP _) ?_;rintro e w1 ⟨rfl,rfl⟩)
   go_ret;simp[kLed, *]
   first | exact⟨Or.inl rfl,Ext.refl _⟩ | exact⟨_,_,⟨rfl,rfl⟩,by simp,repZ_one _ _ _,Ext.alloc _ _⟩
end V
namespace V
theorem k_own_ext {base:Nat} {w0 W w1:World} {t:Value} {k:Nat} {xs:List Value} {ty:TypeId} (ho:W.ownsRow base ty 1 t k xs) (hbase:base=w0.heap.size) (hb:Ext w0 W) (hgrow:W.grownBy w1 t.ownBlock):Ext w0 w1:=by
 refine Below.grown hb hgrow hb.size ?_;intro j hj;rw[← hbase];exact(ho.lt j hj).1
theorem WkS.push {w0 w w3:World} {B H:Nat} {a:Option Addr} {cap n:Nat} {st:KW} {oa:Option Addr} {oc:Nat} {ob:Obj} {g' cap':Nat} (h:WkS w0 w B H a cap n st oa oc) (j:Nat) (x:Int) (hj:j < n) (hx:-1≤x∧x≤64)
  (g1:((w.setCell ⟨H,j,none⟩ (.int .i64 x)).alloc ob).grownBy w3 (Value.slice oa st.op.length oc).ownBlock)
  (ho:w3.ownsRow w0.heap.size 3 1 (.slice (some ⟨g',0,none⟩) (st.op.length+1) cap') (st.op.length+1) (ns st.op.reverse++[.int .i64 (j:Int)]))
  (hw:(Value.slice oa st.op.length oc).ownBlock=some g'∨((w.setCell ⟨H,j,none⟩ (.int .i64 x)).alloc ob).heap.size≤g') :
  WkS w0 (w3.setCell ⟨B,2,none⟩ (.slice (some ⟨g',0,none⟩) (st.op.length+1) cap')) B H a cap n ⟨st.hs.set j x,j :: st.op,st.f⟩ (some ⟨g',0,none⟩) cap' ∧
   WkF B H oa (some ⟨g',0,none⟩) w (w3.setCell ⟨B,2,none⟩ (.slice (some ⟨g',0,none⟩) (st.op.length+1) cap')):=by
 have hz:(w.setCell ⟨H,j,none⟩ (.int .i64 x)).heap.size=w.heap.size:=by simp[World.setCell]
 have hBl:=k_lt h.rB;have hHl:=k_lt h.rH;have hnB:some B≠(Value.slice oa st.op.length oc).ownBlock:=fun e=>(h.aB B e.symm).1 rfl;have hnH:some H≠(Value.slice oa st.op.length oc).ownBlock:=fun e=>(h.aB H e.symm).2 rfl;have hsz:((w.setCell ⟨H,j,none⟩ (.int .i64 x)).alloc ob).heap.size=w.heap.size+1:=by rw[heap_alloc_size,hz]
 have hgB:g'≠B:=by
  rcases hw with e | e
  ·exact(h.aB g' e).1
  ·omega
 have hgH:g'≠H:=by
  rcases hw with e | e
  ·exact(h.aB g' e).2
  ·omega
 have e1:Ext w0 ((w.setCell ⟨H,j,none⟩ (.int .i64 x)).alloc ob):=(h.ext.set h.bH _).trans (Ext.alloc _ _);have r1:((w.setCell ⟨H,j,none⟩ (.int .i64 x)).alloc ob).heap[B]? = _:=(Ext.alloc _ ob).block B (by omega) |>.trans ((Below.heap_setCell w ⟨H,j,none⟩ (.int .i64 x) B h.ne).trans h.rB);have r2:((w.setCell ⟨H,j,none⟩ (.int .i64 x)).alloc ob).heap[H]? = _:=(Ext.alloc _ ob).block H (by omega) |>.trans (k_row_set h.rH j (.int .i64 x));have o1:((w.setCell ⟨H,j,none⟩ (.int .i64 x)).alloc ob).ownsRow w0.heap.size 3 1 (.slice oa st.op.length oc) st.op.length (ns st.op.reverse) :=
  k_own_heap h.own (fun i hi=>((Ext.alloc _ ob).block i (by rw[hz];exact(h.own.lt i hi).2)).trans (Below.heap_setCell _ _ _ _ (h.aB i hi).2))
 have e3:Ext w0 w3:=k_own_ext o1 rfl e1 g1;have r3:w3.heap[B]? = _:=(g1.block B (by omega) hnB).trans r1;have r4:w3.heap[H]? = _:=(g1.block H (by omega) hnH).trans r2;refine⟨⟨e3.set h.bB _,h.bB,h.bH,h.ne,?_,?_,?_,?_,?_⟩,?_⟩
 ·simpa only [List.setIfInBounds_toArray,List.set_cons_zero,List.set_cons_succ,List.length_cons] using k_row_set r3 2 (.slice (some ⟨g',0,none⟩) (st.op.length+1) cap')
 ·refine(Below.heap_setCell _ _ _ _ (Ne.symm h.ne)).trans (r4.trans ?_)
  simp[zs,List.map_set]
 ·refine⟨by simpa using h.ok.1,fun i hi => ?_,fun y hy => ?_⟩
  ·rcases List.mem_cons.1 hi with rfl | hi
   ·exact hj
   ·exact h.ok.2.1 i hi
  ·rcases List.mem_or_eq_of_mem_set hy with hy | rfl
   ·exact h.ok.2.2 y hy
   ·exact hx
 ·have:=k_own_heap (W:=w3.setCell ⟨B,2,none⟩ (.slice (some ⟨g',0,none⟩) (st.op.length+1) cap')) ho (fun i hi=>Below.heap_setCell _ _ _ _ (by simp only[Value.ownBlock,Option.some.injEq] at hi;subst hi;exact hgB))
  simpa [ns] using this
 ·intro k hk
  simp only[Value.ownBlock,Option.some.injEq] at hk;subst hk;exact⟨hgB,hgH⟩
 ·have hs3:=g1.size
  refine⟨by simp[World.setCell];omega,fun k hk h1 h2 h3 => ?_,fun k hk => ?_⟩
  ·refine(Below.heap_setCell _ _ _ _ h1).trans ((g1.block k (by omega) (fun e=>h3 (by rw[obk_eq] at e;exact e.symm))).trans (((Ext.alloc _ ob).block k (by omega)).trans (Below.heap_setCell _ _ _ _ h2)))
  ·simp only[obk,Value.ownBlock,Option.some.injEq] at hk
   subst hk;rcases hw with e | e
   ·rw[obk_eq] at e
    exact Or.inl e
   ·exact Or.inr (by omega)
def WkE (w0 w:World) (B H:Nat) (a:Option Addr) (cap n:Nat) (oa:Option Addr) (st:KW) (e:Ending) (w':World):Prop:=e = .returned (.tuple #[])∧∃ oa' oc,WkS w0 w' B H a cap n st oa' oc∧WkF B H oa oa' w w'
theorem kCome_bad {n:Nat} {st:KW} {to h:Int} (hb:(n:Int)≤to∨64 < h):kCome n st to h=⟨st.hs,st.op,true⟩:=by unfold kCome;rw[if_pos hb]
theorem kCome_at {n:Nat} {st:KW} {j:Nat} {h x:Int} (h1:j < n) (h2:h≤64) (hx:st.hs[j]? = some x):kCome n st (j:Int) h=if x = -1 then ⟨st.hs.set j h,j :: st.op,st.f⟩ else if x=h then st else ⟨st.hs,st.op,true⟩:=by
 unfold kCome;rw[if_neg (by omega),show ((j:Int)).toNat=j by omega,hx]
theorem rH_at {l:List Int} {j:Nat} {x:Int} (h:l[j]? = some x):(zs l).toArray[j]? = some (.int .i64 x):=by simp[zs,h]
theorem come_w (w0 w:World) (B H:Nat) (a:Option Addr) (cap n:Nat) (st:KW) (oa:Option Addr) (oc:Nat) (j:Nat) (h:Int) (S:WkS w0 w B H a cap n st oa oc) (hop:st.op.length≤10000000) (hn:n≤1000000) (hh:-1≤h) :
  Calls Tryz.prog 84 #[.pointer (some ⟨B,0,none⟩),.int .i64 (j:Int),.int .i64 h] w (WkE w0 w B H a cap n oa (kCome n st j h)):=by
 have c0:=k_rowC S.rB 0 rfl;have c1:=k_rowC S.rB 1 rfl;have c2:=k_rowC S.rB 2 rfl;have c3:=k_rowC S.rB 3 rfl;have zf:=k_rowF S.rB;have HS:=zh S;by_cases h1:n≤j
 ·rw[kCome_bad (Or.inl (by omega))]
  clear S
  go_enter Tryz.func84,Tryz.ntmps84
  go_wp2_with fail
  go_end0
  exact⟨rfl,_,_,(zu HS).fault,WkF.fault _ _ _ _⟩
 ·by_cases h2:h≤64
  ·have hj:j < st.hs.length:=by rw[S.ok.1];omega
   obtain⟨x,hx⟩:∃ x,st.hs[j]? = some x:=⟨_,List.getElem?_eq_getElem hj⟩;rw[kCome_at (by omega) h2 hx];have cx:w.cell? ⟨H,j,none⟩=some (.int .i64 x):=k_rowC S.rH j (rH_at hx);have fx:=k_rowF S.rH j;have hne:=S.ne;by_cases h3:x = -1
   ·rw[if_pos h3]
    subst h3;have hc2:(w.setCell ⟨H,j,none⟩ (.int .i64 h)).cell? ⟨B,2,none⟩=some (.slice oa st.op.length oc):=by
     rw[World.cell?_of_block (w:=w) (Below.heap_setCell _ _ _ _ hne)];exact c2
    have HO:Hd (∀ ob,((w.setCell ⟨H,j,none⟩ (.int .i64 h)).alloc ob).ownsRow w0.heap.size 3 1 (.slice oa st.op.length oc) st.op.length (ns st.op.reverse)):=fun ob =>
     k_own_heap S.own (fun i hi=>((Ext.alloc _ ob).block i (by simp[World.setCell];exact(S.own.lt i hi).2)).trans (Below.heap_setCell _ _ _ _ (S.aB i hi).2))
    have HL:Hd (∀ ob,w0.heap.size≤((w.setCell ⟨H,j,none⟩ (.int .i64 h)).alloc ob).heap.size):=fun ob=>by
     have:=S.ext.size;rw[heap_alloc_size];simp[World.setCell];omega
    have HP:=zh (fun (w3:World) (ob:Obj) (g' cap':Nat)=>S.push (w3:=w3) (ob:=ob) (g':=g') (cap':=cap') j h (by omega) ⟨hh,h2⟩);have hZ:(w.setCell ⟨H,j,none⟩ (.int .i64 h)).heap.size=w.heap.size:=by simp[World.setCell]
    have HZ:=zh hZ;have hF:∀ (w3:World) (i:Nat),w3.heap[B]? = some (.cells #[.slice a n cap,.slice (some ⟨H,0,none⟩) n n,.slice oa st.op.length oc,.bool st.f] 160 (0,0))→w3.frozen? ⟨B,i,none⟩=false:=fun w3 i hh=>k_rowF hh i;have HF:=zh hF;have HrB:Hd (∀ (w3:World) (ob:Obj),((w.setCell ⟨H,j,none⟩ (.int .i64 h)).alloc ob).grownBy w3 (Value.slice oa st.op.length oc).ownBlock→w3.heap[B]? = some (.cells #[.slice a n cap,.slice (some ⟨H,0,none⟩) n n,.slice oa st.op.length oc,.bool st.f] 160 (0,0))):=fun w3 ob g=>by
     have hBl:=k_lt S.rB;refine(g.block B (by rw[heap_alloc_size,hZ];omega) (fun e=>(S.aB B e.symm).1 rfl)).trans (((Ext.alloc _ ob).block B (by rw[hZ];exact hBl)).trans ((Below.heap_setCell _ _ _ _ hne).trans S.rB))
    obtain⟨i0,hi,hz0,hz1,hz2⟩:=k_info;have HI:=zh hi;have Z0:=zh hz0;have Z1:=zh hz1;have Z2:=zh hz2;have hlt:j < n:=by omega
    clear hi hz0 hz1 hz2 hZ hF S hj hx;generalize ns st.op.reverse=XS at HO HP
    go_enter Tryz.func84,Tryz.ntmps84
    go_wp2_with (at_builtin;refine kapp_list rfl (.tmp 41) (.tmp 43) 77 rfl w0.heap.size 3 i0 (.int .i64 0) 1 8 Tryz.underlying77 (zu HI) (zu Z0) (zu Z1) (zu Z2) rfl (by decide) oa st.op.length oc _ rfl (zu HO _) ⟨w.heap.size,0,none⟩ 1 1 [.int .i64 (j:Int)] rfl (by decide) rfl (k_new _ _ (zu HZ).symm _ _) (k_one_int _) ?c1 ?c2 (zu HL _) ?_)
    case c1=>unfold maxLen;omega
    case c2=>omega
    intro g' cap' w3 ho hg hw;have hrow:=zu HrB w3 _ hg;have fz:=k_rowF hrow 2;have d2:=k_rowC hrow 2 rfl;have HW:=zh (zu HP w3 _ g' cap' hg ho (hw.imp id (fun e=>by rw[heap_alloc_size,zu HZ];exact e)));clear ho hg hw hrow
    go_wp2_with fail
    go_end0
    exact⟨rfl,_,_,zu HW⟩
   ·rw[if_neg h3]
    have b3:(x == -1)=false:=by rw[beq_eq_false_iff_ne];exact h3
    by_cases h4:x=h
    ·rw[if_pos h4]
     have b4:(x == h)=true:=by rw[beq_iff_eq];exact h4
     clear S hj hx h3 h4
     go_enter Tryz.func84,Tryz.ntmps84
     go_wp2_with fail
     go_end0
     exact⟨rfl,_,_,zu HS,WkF.of (Ext.refl _)⟩
    ·rw[if_neg h4]
     have b4:(x == h)=false:=by rw[beq_eq_false_iff_ne];exact h4
     clear S hj hx h3 h4
     go_enter Tryz.func84,Tryz.ntmps84
     go_wp2_with fail
     go_end0
     exact⟨rfl,_,_,(zu HS).fault,WkF.fault _ _ _ _⟩
  ·rw[kCome_bad (Or.inr (by omega))]
   clear S
   go_enter Tryz.func84,Tryz.ntmps84
   go_wp2_with fail
   go_end0
   exact⟨rfl,_,_,(zu HS).fault,WkF.fault _ _ _ _⟩
theorem WkS.pop {w0 w:World} {B H:Nat} {a:Option Addr} {cap n:Nat} {st:KW} {oa:Option Addr} {oc j:Nat} {r:List Nat} (h:WkS w0 w B H a cap n st oa oc) (hr:st.op=j :: r) :
  WkS w0 (w.setCell ⟨B,2,none⟩ (.slice oa r.length oc)) B H a cap n ⟨st.hs,r,st.f⟩ oa oc:=by
 have hk:∀ k,(Value.slice oa r.length oc).ownBlock=some k→(Value.slice oa st.op.length oc).ownBlock=some k:=fun k e=>by cases oa <;> exact e
 have ho:=k_own_prefix (m:=r.length) h.own (by rw[hr];simp);have e:(ns st.op.reverse).take (r.length * 1)=ns r.reverse:=by
  rw[hr,Nat.mul_one];simp only[ns,List.reverse_cons,List.map_append];rw[List.take_append_of_le_length (by simp)];rw[List.take_of_length_le (by simp)]
 rw[e] at ho;refine⟨h.ext.set h.bB _,h.bB,h.bH,h.ne,?_,k_row_other h.rH (Ne.symm h.ne) _ _,⟨h.ok.1,fun i hi=>h.ok.2.1 i (by rw[hr];exact List.mem_cons_of_mem _ hi),h.ok.2.2⟩,k_own_heap ho (fun i hi=>Below.heap_setCell _ _ _ _ (h.aB i (hk i hi)).1),fun k e=>h.aB k (hk k e)⟩
 simpa only [List.setIfInBounds_toArray,List.set_cons_zero,List.set_cons_succ] using k_row_set h.rB 2 (.slice oa r.length oc)
theorem WkS.top {w0 w:World} {B H:Nat} {a:Option Addr} {cap n:Nat} {st:KW} {oa:Option Addr} {oc j:Nat} {r:List Nat} (h:WkS w0 w B H a cap n st oa oc) (hr:st.op=j :: r) :
  ∃ g,oa=some ⟨g,0,none⟩∧r.length+1≤oc∧w.cell? ⟨g,r.length,none⟩=some (.int .i64 (j:Int)):=by
 have ho:=h.own;rw[hr] at ho;obtain⟨h1,⟨e,h0⟩ | ⟨g,cap2,cur,e,hb,hg,hn,_⟩⟩:=id ho
 ·simp at h0
 ·injection e with e1 e2 e3
  subst e1 e3;have hc:=ho.cells (g:=g) rfl r.length (.int .i64 (j:Int)) (by simp[ns]);rw[k_add] at hc;exact⟨g,rfl,hn,hc⟩
theorem take_w (w0 w:World) (B H:Nat) (a:Option Addr) (cap n:Nat) (st:KW) (oa:Option Addr) (oc:Nat) (j:Nat) (r:List Nat) (S:WkS w0 w B H a cap n st oa oc) (hr:st.op=j :: r) (hop:st.op.length≤10000000) :
  Calls Tryz.prog 86 #[.pointer (some ⟨B,0,none⟩)] w fun e w'=>e = .returned (.int .i64 (j:Int))∧∃ oa oc,WkS w0 w' B H a cap n ⟨st.hs,r,st.f⟩ oa oc:=by
 have HP:=zh (S.pop hr);obtain⟨g,rfl,hcap,ct⟩:=S.top hr;have c2:w.cell? ⟨B,2,none⟩=some (.slice (some ⟨g,0,none⟩) (r.length+1) oc):=by
  have:=k_rowC S.rB 2 rfl;rw[hr] at this;exact this
 have zf:=k_rowF S.rB 2;rw[hr] at hop;simp only[List.length_cons] at hop;have HW:=HP;clear S hr;obtain⟨R,hR⟩:∃ R,R=r.length:=⟨_,rfl⟩;rw[← hR] at HW HP hop hcap ct c2;clear hR
 go_enter Tryz.func86,Tryz.ntmps86
 go_wp2_with fail
 go_ret;exact⟨rfl,_,_,zu HW⟩
end V
namespace V
theorem enterPops (v:Value) (W:World):(callFunc 104 #[v]).run Tryz.prog W = .ok (.enter 104 #[v]) W:=by kernel_rfl
theorem kPops_ge (i:KI):0≤kPops i:=by
 unfold kPops
 repeat' split
 all_goals omega
theorem kPops_le (i:KI) (h1:i.a≤9223372036854775807) (h2:i.b≤9223372036854775807):kPops i≤9223372036854775807:=by
 unfold kPops;repeat' split
 all_goals omega
theorem kPush_ge (i:KI):0≤kPush i∧kPush i≤1:=by
 unfold kPush;split
 all_goals omega
structure LvI (w0 w wr:World) (B H:Nat) (a:Option Addr) (cap n:Nat) (st0 st:KW) (oa0 oa:Option Addr) (oc X:Nat) (i:KI) (nb:Option Addr) (nx:List Int) (h:Int) (k:Nat):Prop where
 S:WkS w0 wr B H a cap n st oa oc
 box:wr.heap[X]? = some (.cells #[.int .i64 i.op,.int .i64 i.a,.int .i64 i.b] 128 (0,0))
 bX:w.heap.size≤X∧obk oa≠some X
 nr:RepZ wr (fun b=>w.heap.size≤b∧b < wr.heap.size∧obk oa≠some b) nb nx
 fr:WkF B H oa0 oa w wr
 eq:kComes n h (nx.drop k) st=kComes n h nx st0
 len:st.op.length≤st0.op.length+k
theorem LvI.on {w0 w wr w1:World} {B H:Nat} {a:Option Addr} {cap n:Nat} {st0 st:KW} {oa0 oa:Option Addr} {oc X:Nat} {i:KI} {nb:Option Addr} {nx:List Int} {h:Int} {k:Nat} (I:LvI w0 w wr B H a cap n st0 st oa0 oa oc X i nb nx h k) (x:Ext wr w1):LvI w0 w w1 B H a cap n st0 st oa0 oa oc X i nb nx h k :=
 ⟨I.S.on x,(x.block X (k_lt I.box)).trans I.box,I.bX,I.nr.to (fun b hb=>⟨⟨hb.1,Nat.lt_of_lt_of_le hb.2.1 x.size,hb.2.2⟩,x.block b hb.2.1⟩),I.fr.trans (WkF.of x),I.eq,I.len⟩
theorem LvI.step {w0 w wr w1:World} {B H:Nat} {a:Option Addr} {cap n:Nat} {st0 st:KW} {oa0 oa oa1:Option Addr} {oc oc1 X:Nat} {i:KI} {nb:Option Addr} {nx:List Int} {h:Int} {k:Nat} {to:Int} (I:LvI w0 w wr B H a cap n st0 st oa0 oa oc X i nb nx h k) (hB:B < w.heap.size) (hH:H < w.heap.size) (ht:nx[k]? = some to)
  (s:WkS w0 w1 B H a cap n (kCome n st to h) oa1 oc1) (f:WkF B H oa oa1 wr w1):LvI w0 w w1 B H a cap n st0 (kCome n st to h) oa0 oa1 oc1 X i nb nx h (k+1):=by
 have hX:=k_lt I.box;have hs:=f.size;have hb:=I.bX;have no:∀ b,b < wr.heap.size→obk oa≠some b→obk oa1≠some b:=fun b h1 h2 e=>by
  rcases f.own b e with e | e
  ·exact h2 e
  ·omega
 refine⟨s,(f.keep X hX (by omega) (by omega) hb.2).trans I.box,⟨hb.1,no X hX hb.2⟩,I.nr.to (fun b hb=>⟨⟨hb.1,by omega,no b hb.2.1 hb.2.2⟩,f.keep b hb.2.1 (by omega) (by omega) hb.2.2⟩),I.fr.trans f,?_,?_⟩
 ·obtain⟨hk,rfl⟩:=List.getElem?_eq_some_iff.1 ht
  rw[← I.eq,List.drop_eq_getElem_cons hk,kComes]
 ·have:=(kCome_len n st to h).2
  have:=I.len;omega
theorem kLeave_at {code:List KI} {st:KW} {j:Nat} {i:KI} {x:Int} (hi:code[j]? = some i) (hx:st.hs[j]? = some x):kLeave code st j=if x - kPops i < 0 then ⟨st.hs,st.op,true⟩ else kComes code.length (x - kPops i+kPush i) (kNext code j) st:=by
 unfold kLeave;rw[hi,hx]
theorem leave_w (w0 w:World) (B H:Nat) (a:Option Addr) (cap:Nat) (code:List KI) (st:KW) (oa:Option Addr) (oc:Nat) (j:Nat) (S:WkS w0 w B H a cap code.length st oa oc) (hc:RepC w0 (In w0) a code) (hb:KBd code) (hnb:KNb code) (hj:j < code.length) (hop:st.op.length≤9000000) (hn:code.length≤1000000) :
  Calls Tryz.prog 85 #[.pointer (some ⟨B,0,none⟩),.int .i64 (j:Int)] w (WkE w0 w B H a cap code.length oa (kLeave code st j)):=by
 obtain⟨i,hi⟩:∃ i,code[j]? = some i:=⟨_,List.getElem?_eq_getElem hj⟩;obtain⟨x,hx⟩:∃ x,st.hs[j]? = some x:=⟨_,List.getElem?_eq_getElem (by rw[S.ok.1];exact hj)⟩;have hxb:=S.ok.2.2 x (List.mem_of_getElem? hx);have hib:=hb i (List.mem_of_getElem? hi);have hp1:=kPops_ge i;have hp2:=kPops_le i hib.2.1 hib.2.2.2;have hp3:=kPush_ge i;rw[kLeave_at hi hx];have HP:=zh (fun W=>pops_any i W);have HU:=zh (fun W=>pushes_any i W);have HN:=zh (fun (W:World) (e:Ext w0 W)=>next_any code j a cap W (hc.ext e) hn);have HC:=zh (fun (W:World) (st':KW) (oa':Option Addr) (oc' k:Nat) (h:Int) (S':WkS w0 W B H a cap code.length st' oa' oc')=>come_w w0 W B H a cap code.length st' oa' oc' k h S');have HNB:=zh hnb;obtain⟨b,o,rfl,hf,d0,d1,d2⟩:=(hc.ext S.ext).at hi;have c0:=k_rowC S.rB 0 rfl;have c1:=k_rowC S.rB 1 rfl
 have zf:=k_rowF S.rB;have cx:w.cell? ⟨H,j,none⟩=some (.int .i64 x):=k_rowC S.rH j (rH_at hx);have HS:=zh S;have lB:=k_lt S.rB;have lH:=k_lt S.rH;have HE:=zh (kNext_len code (j:Int));clear S hi hx hc hb hnb hib hf;have hpv:∃ P,P=kPops i:=⟨_,rfl⟩;obtain⟨P,hP⟩:=hpv;have huv:∃ U,U=kPush i:=⟨_,rfl⟩;obtain⟨U,hU⟩:=huv;rw[← hP] at hp1 hp2 HP ⊢;rw[← hU] at hp3 HU ⊢;clear hP hU;obtain⟨p,y,z⟩:=i;simp only at d0 d1 d2;have c0:w.cell? ⟨B,0,none⟩=some (.slice (some ⟨b,o,none⟩) code.length cap):=c0;have c1:w.cell? ⟨B,1,none⟩=some (.slice (some ⟨H,0,none⟩) code.length code.length):=c1;have c3:w.cell? ⟨B,3,none⟩=some (.bool st.f):=k_rowC (zu HS).rB 3 rfl;by_cases hlt:x - P < 0
 ·rw[if_pos hlt]
  go_enter Tryz.func85,Tryz.ntmps85
  go_wp2_with fail
  refine k_nrm ?_
  first | skip;go_region_law (refine k_step_call rfl 104 (.tmp 22) 128 rfl _ (by simp[Act.eval,Act.put]) (enterPops _ _) (Calls.mono (zu HP _) ?_);rintro e w2 ⟨rfl,hw⟩;have hE:=(Ext.drew (Ext.alloc w _)).trans hw;have HE2:=zh hE;have q1:=hE.cell c1;have q0:=hE.cell c0;have q3:=hE.cell c3;have qx:=hE.cell cx;have qz:=k_rowF ((zu HS).on hE).rB;have HB:=zh (hw.block w.heap.size (by simp));have HL2:Hd (w.heap.size < w2.heap.size):=Nat.lt_of_lt_of_le (by simp) hw.size;clear hw hE;refine⟨_,rfl,?_⟩) | fail
  all_goals
   simp only[KNrm]
   go_wp2_with fail
   go_end0
   exact⟨rfl,_,_,((zu HS).on (zu HE2)).fault,(WkF.of (zu HE2)).trans (WkF.fault _ _ _ _)⟩
 ·rw[if_neg hlt]
  go_enter Tryz.func85,Tryz.ntmps85
  go_wp2_with fail
  refine k_nrm ?_
  first | skip;go_region_law (refine k_step_call rfl 104 (.tmp 22) 128 rfl _ (by simp[Act.eval,Act.put]) (enterPops _ _) (Calls.mono (zu HP _) ?_);rintro e w2 ⟨rfl,hw⟩;have hE:=(Ext.drew (Ext.alloc w _)).trans hw;have HE2:=zh hE;have q1:=hE.cell c1;have q0:=hE.cell c0;have q3:=hE.cell c3;have qx:=hE.cell cx;have qz:=k_rowF ((zu HS).on hE).rB;have HB:=zh (hw.block w.heap.size (by simp));have HL2:Hd (w.heap.size < w2.heap.size):=Nat.lt_of_lt_of_le (by simp) hw.size;clear hw hE;refine⟨_,rfl,?_⟩) | fail
  all_goals
   simp only[KNrm]
   go_wp2_with (go_at_call 105;refine Calls.mono (zu HN w2 ((zu HS).ext.trans (zu HE2))) ?_;rintro e w3 ⟨nb,nc,rfl,r1,r2,r3⟩;have R1:=zh r1;have R2:=zh r2;have R3:=zh r3;clear r1 r2 r3)
   have I0:Hd (LvI w0 w w3 B H (some ⟨b,o,none⟩) cap code.length st st oa oa oc w.heap.size ⟨p,y,z⟩ nb (kNext code (j:Int)) (x - P+U) 0):=by
    have hE3:=(zu HE2).trans (zu R3);have hno:∀ k,w.heap.size≤k→obk oa≠some k:=fun k hk e=>by
     have:=((zu HS).own.lt k (by rw[obk_eq];exact e)).2;omega
    have hl2:w.heap.size < w2.heap.size:=zu HL2;refine⟨(zu HS).on hE3,?_,⟨Nat.le_refl _,hno _ (Nat.le_refl _)⟩,(zu R2).to (fun b hb=>⟨⟨by have:=hb.1;omega,hb.2,hno b (by have:=hb.1;omega)⟩,rfl⟩),WkF.of hE3,rfl,by omega⟩;exact((zu R3).block w.heap.size hl2).trans ((zu HB).trans (Go.heap_alloc_new w _))
   clear R2 R3 HB HE2 q0 q1 q3 qx qz;generalize hNX:kNext code (j:Int)=NX at *;have hNL:=zu HE
   go_wp2_with fail
   go_loopw [37] (fun t wr => ∃ (k:Nat) (st':KW) (oa':Option Addr) (oc':Nat),t = .int .i64 k∧k≤NX.length∧Hd (LvI w0 w wr B H (some ⟨b,o,none⟩) cap code.length st st' oa oa' oc' w.heap.size ⟨p,y,z⟩ nb NX (x - P+U) k)) (fun t _=>NX.length - (intOf t).toNat)
   case atStart=>exact⟨0,st,oa,oc,rfl,by omega,I0⟩
   case round =>
    clear I0;obtain⟨k,st',oa',oc',rfl,hk,hI⟩:=hrel;by_cases hlk:k < NX.length
    ·obtain⟨to,hto⟩:∃ to,NX[k]? = some to:=⟨_,List.getElem?_eq_getElem hlk⟩
     have hto0:0≤to:=zu HNB j to (by rw[hNX];exact List.mem_of_getElem? hto);obtain⟨t,rfl⟩:∃ t:Nat,to=t:=⟨to.toNat,by omega⟩;obtain⟨nbb,rfl,_,hcell⟩:∃ b',nb=some ⟨b',0,none⟩∧True∧wr.cell? ⟨b',k,none⟩=some (.int .i64 (t:Int)):=by
      rcases (zu hI).nr with h | ⟨b',e,_,hc⟩
      ·rw[h] at hlk;simp at hlk
      ·exact⟨b',e,trivial,hc k _ hto⟩
     have x0:=k_rowC (zu hI).box 0 rfl;have x1:=k_rowC (zu hI).box 1 rfl;have x2:=k_rowC (zu hI).box 2 rfl;have HT:=zh hto;have hlen:=(zu hI).len;have HTO:=zh hto0;clear hto hto0
     go_wp2_with (first | (go_at_call 106;refine Calls.mono (zu HU _) ?_;rintro e w4 ⟨rfl,hw⟩;have I4:=zh ((zu hI).on hw);clear hw) | (go_at_call 84;refine Calls.mono (zu HC w4 st' oa' oc' t (x - P+U) (zu I4).S ?h1 ?h2 ?h3) ?_;rotate_left 3;rintro e w5 ⟨rfl,oa5,oc5,hs5,hf5⟩;have I5:=zh ((zu I4).step lB lH (zu HT) hs5 hf5);clear hs5 hf5))
     case h1=>omega
     case h2=>exact hn
     case h3=>omega
     go_roundw
     case rel=>exact⟨k+1,_,_,_,by go_num,by omega,I5⟩
     case measure=>simp[intOf];omega
    ·obtain rfl:k=NX.length:=by omega
     go_wp2_with fail
     go_end0
     refine⟨rfl,oa',oc',?_,(zu hI).fr⟩;have he:=(zu hI).eq;rw[List.drop_length,kComes] at he;rw[← he];exact(zu hI).S
end V
namespace V
def KJump (J:Nat→Act→World→Prop) (Q:Exit→Act→World→Prop):Exit→Act→World→Prop
 | .goto l,a,w=>J l a w
 | e,a,w=>Q e a w
theorem k_scope_many {P:Program} {a:Act} {w:World} {Q:Exit→Act→World→Prop} {c:Code} (J:Nat→Nat→Act→World→Prop) (R:Nat→Code) (hf:∀ l k a w,J l k a w→findLabel c l=some (R l))
  (first:c.wp P (KJump (fun l a w => ∃ k,J l k a w) Q) a w)
  (pass:∀ l k a w,J l k a w→(R l).wp P (KJump (fun l' a' w' => ∃ k',k' < k∧J l' k' a' w') Q) a w):(Code.scope c).wp P Q a w:=by
 intro b k cs;have key:∀ n l a w,J l n a w→∃ e a' w',Q e a' w'∧Arrives P (lone (b.at a (.code (R l) :: .inScope c :: k)) cs w) b k cs e a' w':=by
  intro n
  induction n using Nat.strongRecOn with
  | _ n ih =>
   intro l a w hJ;obtain⟨e,a₁,w₁,hq,harr⟩:=pass l n a w hJ b (.inScope c :: k) cs;cases e with
   | normal=>exact⟨.normal,a₁,w₁,hq,Steps.trans harr (.one step_inScope)⟩
   | exit id=>exact⟨.exit id,a₁,w₁,hq,fun k' hk=>harr k' (by simp[exitTo,hk])⟩
   | goto l' =>
    obtain⟨n',hlt,hJ'⟩:=hq;obtain⟨e₂,a₂,w₂,hq₂,harr₂⟩:=ih n' hlt l' a₁ w₁ hJ';have hg:gotoIn l' (.inScope c :: k)=some (.code (R l') :: .inScope c :: k):=by simp[gotoIn,hf l' n' a₁ w₁ hJ']
    exact⟨e₂,a₂,w₂,hq₂,.of_steps (harr _ hg) harr₂⟩
   | ret=>exact⟨_,a₁,w₁,hq,harr⟩
   | panic ch=>exact⟨_,a₁,w₁,hq,harr⟩
   | outgrown=>exact⟨_,a₁,w₁,hq,harr⟩
 obtain⟨e,a₁,w₁,hq,harr⟩:=first b (.inScope c :: k) cs;cases e with
 | normal=>exact⟨.normal,a₁,w₁,hq,.head step_scope (Steps.trans harr (.one step_inScope))⟩
 | exit id=>exact⟨.exit id,a₁,w₁,hq,fun k' hk => .head step_scope (harr k' (by simp[exitTo,hk]))⟩
 | goto l' =>
  obtain⟨n',hJ'⟩:=hq;obtain⟨e₂,a₂,w₂,hq₂,harr₂⟩:=key n' l' a₁ w₁ hJ';have hg:gotoIn l' (.inScope c :: k)=some (.code (R l') :: .inScope c :: k):=by simp[gotoIn,hf l' n' a₁ w₁ hJ']
  exact⟨e₂,a₂,w₂,hq₂,.of_steps (.head step_scope (harr _ hg)) harr₂⟩
 | ret=>exact⟨_,a₁,w₁,hq,.of_steps (.one step_scope) harr⟩
 | panic ch=>exact⟨_,a₁,w₁,hq,.of_steps (.one step_scope) harr⟩
 | outgrown=>exact⟨_,a₁,w₁,hq,.of_steps (.one step_scope) harr⟩
def KTwo (l1 l0:Nat) (J1 J0:Act→World→Prop) (Q:Exit→Act→World→Prop):Exit→Act→World→Prop
 | .goto l,a,w=>(l=l1∧J1 a w)∨(l=l0∧J0 a w)
 | e,a,w=>Q e a w
theorem KTwo.imp {l1 l0:Nat} {J1 J1' J0:Act→World→Prop} {Q:Exit→Act→World→Prop} (h:∀ a w,J1 a w→J1' a w):∀ e a w,KTwo l1 l0 J1 J0 Q e a w→KTwo l1 l0 J1' J0 Q e a w:=by
 intro e a w hq;cases e with
 | goto l=>exact Or.imp (fun x=>⟨x.1,h a w x.2⟩) id hq
 | _=>exact hq
theorem k_scope_two {P:Program} {a:Act} {w:World} {Q:Exit→Act→World→Prop} {c rest1 rest0:Code} (l1 l0:Nat) (hne:l0≠l1) (J1:Nat→Act→World→Prop) (J0:Act→World→Prop)
  (hf1:findLabel c l1=some (Code.skip.seq rest1)) (hf0:findLabel c l0=some (Code.skip.seq rest0))
  (pass1:∀ k a w,J1 k a w→rest1.wp P (KTwo l1 l0 (fun a' w' => ∃ k',k' < k∧J1 k' a' w') J0 Q) a w)
  (pass0:∀ a w,J0 a w→rest0.wp P (Exit.noGoto Q) a w)
  (first:(∀ k a w,J1 k a w→rest1.wp P (KTwo l1 l0 (fun a' w' => ∃ k,J1 k a' w') J0 Q) a w)→c.wp P (KTwo l1 l0 (fun a' w' => ∃ k,J1 k a' w') J0 Q) a w):(Code.scope c).wp P Q a w:=by
 refine k_scope_many (fun l k a w=>(l=l1∧∃ k1,k=k1+1∧J1 k1 a w)∨(l=l0∧k=0∧J0 a w)) (fun l=>if l=l1 then Code.skip.seq rest1 else Code.skip.seq rest0) ?_ ?_ ?_
 ·rintro l k a w (⟨rfl,_⟩ | ⟨rfl,_⟩)
  ·rw[if_pos rfl];exact hf1
  ·rw[if_neg hne];exact hf0
 ·refine Code.wp_mono ?_ (first fun k a w h=>by
   refine Code.wp_mono (KTwo.imp ?_) (pass1 k a w h);rintro a w ⟨k',_,h⟩;exact⟨k',h⟩)
  intro e a w hq;cases e with
  | goto l =>
   rcases hq with⟨e,k,h⟩ | ⟨e,h⟩
   ·exact⟨k+1,Or.inl ⟨e,k,rfl,h⟩⟩
   ·exact⟨0,Or.inr ⟨e,rfl,h⟩⟩
  | _=>exact hq
 ·rintro l k a w (⟨rfl,k1,rfl,h⟩ | ⟨rfl,rfl,h⟩)
  ·rw[if_pos rfl]
   refine wp_seq (wp_skip (Code.wp_mono ?_ (pass1 k1 a w h)));intro e a w hq;cases e with
   | goto l =>
    rcases hq with⟨e,k,hk,h⟩ | ⟨e,h⟩
    ·exact⟨k+1,by omega,Or.inl ⟨e,k,rfl,h⟩⟩
    ·exact⟨0,by omega,Or.inr ⟨e,rfl,h⟩⟩
   | _=>exact hq
  ·rw[if_neg hne]
   refine wp_seq (wp_skip (Code.wp_mono ?_ (pass0 a w h)));intro e a w hq;cases e with
   | goto l=>exact hq.elim
   | _=>exact hq
end V
namespace V
structure HtI (w wr:World) (a:Option Addr) (cap n k:Nat):Prop where
 ext:Ext w wr
 rB:wr.heap[w.heap.size+1]? = some (.cells #[.slice a n cap,.slice (some ⟨w.heap.size,0,none⟩) n n,.slice none 0 0,.bool false] 160 (0,0))
 rH:wr.heap[w.heap.size]? = some (.cells (zs (List.replicate k (-1)++List.replicate (n - k) 0)).toArray 3 (0,0))
theorem HtI.step {w wr:World} {a:Option Addr} {cap n k:Nat} (h:HtI w wr a cap n k) (hk:k < n):HtI w (wr.setCell ⟨w.heap.size,k,none⟩ (.int .i64 (-1))) a cap n (k+1):=by
 refine⟨h.ext.set (Nat.le_refl _) _,k_row_other h.rB (by omega) _ _,?_⟩;rw[k_row_set h.rH k (.int .i64 (-1))]
 congr 2
 have e:List.replicate (n - k) (0:Int)=0 :: List.replicate (n - (k+1)) 0:=by
  rw[show n - k=n - (k+1)+1 by omega];rfl
 rw[e];simp only[zs,List.map_append,List.map_replicate,List.map_cons,List.setIfInBounds_toArray];rw[List.set_append_right _ _ (by simp)];simp[List.replicate_succ']
theorem HtI.done {w wr:World} {a:Option Addr} {cap n:Nat} (h:HtI w wr a cap n n):WkS w wr (w.heap.size+1) w.heap.size a cap n ⟨List.replicate n (-1),[],false⟩ none 0:=by
 refine⟨h.ext,by omega,Nat.le_refl _,by omega,h.rB,?_,⟨by simp,by simp,fun x hx => ?_⟩,World.ownsRow_nil _ _ _ _,fun k e=>by cases e⟩
 ·rw[h.rH];simp
 ·have:=List.eq_of_mem_replicate hx
  omega
def HtR (w:World) (n:Nat) (r:Option (List Int)) (e:Ending) (w':World):Prop :=
 match r with
 | none=>e = .returned (.tuple #[.slice none 0 0,.bool false])∧Ext w w'
 | some hs=>hs.length=n∧(∀ x ∈ hs,-1≤x∧x≤64)∧e = .returned (.tuple #[.slice (some ⟨w.heap.size,0,none⟩) n n,.bool true])∧RepZ w' (Fr2 w w') (some ⟨w.heap.size,0,none⟩) hs∧Ext w w'
structure HtJ (w wr:World) (a:Option Addr) (cap:Nat) (code:List KI) (K k:Nat) (F:Option (List Int)) (st:KW) (oa:Option Addr) (oc:Nat):Prop where
 S:WkS w wr (w.heap.size+1) w.heap.size a cap code.length st oa oc
 eq:(match kRun code k st with | none=>none | some st=>if st.f then some none else some (some st.hs))=some F
 len:st.op.length+k≤K+1
theorem WkS.tells {w wr:World} {B:Nat} {a:Option Addr} {cap n:Nat} {st:KW} {oa:Option Addr} {oc:Nat} (S:WkS w wr B w.heap.size a cap n st oa oc):RepZ wr (Fr2 w wr) (some ⟨w.heap.size,0,none⟩) st.hs :=
 Or.inr ⟨_,rfl,⟨Nat.le_refl _,k_lt S.rH⟩,fun j x hx=>k_rowC S.rH j (rH_at hx)⟩
theorem heightsOf_w (code:List KI) (a:Option Addr) (cap K:Nat) (F:Option (List Int)) (w:World) (hc:RepC w (In w) a code) (hb:KBd code) (hnb:KNb code) (hn:code.length≤1000000) (hK:K≤8000000) (hF:kHts code K=some F) :
  Calls Tryz.prog 51 #[.slice a code.length cap] w (HtR w code.length F):=by
 have hmk:=make_ints code.length hn w;have HCm:=zh (fun (W:World) (st:KW) (oa:Option Addr) (oc j:Nat) (h:Int) (S:WkS w W (w.heap.size+1) w.heap.size a cap code.length st oa oc)=>come_w w W _ _ a cap code.length st oa oc j h S);have HLv:=zh (fun (W:World) (st:KW) (oa:Option Addr) (oc j:Nat) (S:WkS w W (w.heap.size+1) w.heap.size a cap code.length st oa oc) (hj:j < code.length) (h1:st.op.length≤9000000)=>leave_w w W _ _ a cap code st oa oc j S hc hb hnb hj h1 hn);have HTk:=zh (fun (W:World) (st:KW) (oa:Option Addr) (oc j:Nat) (r:List Nat) (S:WkS w W (w.heap.size+1) w.heap.size a cap code.length st oa oc)=>take_w w W _ _ a cap code.length st oa oc j r S);have HF:=zh hF
 have HI0:Hd (HtI w ((w.alloc (.cells (zs (List.replicate code.length 0)).toArray 3)).alloc (.cells #[.slice a code.length cap,.slice (some ⟨w.heap.size,0,none⟩) code.length code.length,.slice none 0 0,.bool false] 160)) a cap code.length 0):=by
  refine⟨(Ext.alloc _ _).trans (Ext.alloc _ _),?_,?_⟩
  ·have:=Go.heap_alloc_new (w.alloc (.cells (zs (List.replicate code.length 0)).toArray 3)) (.cells #[.slice a code.length cap,.slice (some ⟨w.heap.size,0,none⟩) code.length code.length,.slice none 0 0,.bool false] 160)
   rw[heap_alloc_size] at this;exact this
  ·rw[(Ext.alloc _ _).block w.heap.size (by simp),Go.heap_alloc_new]
   simp
 clear hF hc hb hnb;have hz0:(zs (List.replicate code.length 0)).toArray=Array.replicate code.length (.int .i64 0):=by simp[zs]
 rw[hz0] at HI0;clear hz0;generalize hN:code.length=n at *
 go_enter Tryz.func51,Tryz.ntmps51
 go_wp2_with fail
 refine k_scope_two 1 0 (by decide) (fun k a' wr => ∃ (u5 u6 u7 u8 u9 u10 u11 u12 u13 u14 u15 u16 u17 u18 u19 u20 u21 u22 u23 u24 u25 u26 u27 u28 u29 u30 u31 u32:Value),a' = { tmps:=#[.slice a n cap,undef,.slice none 0 0,.bool false,.pointer (some ⟨w.heap.size+1,0,none⟩),u5,u6,u7,u8,u9,u10,u11,u12,u13,u14,u15,u16,u17,u18,u19,u20,u21,u22,u23,u24,u25,u26,u27,u28,u29,u30,u31,u32],defers:=[] }∧∃ st oa oc,Hd (HtJ w wr a cap code K k F st oa oc)) (fun a' wr => ∃ (u5 u6 u7 u8 u9 u10 u11 u12 u13 u14 u15 u16 u17 u18 u19 u20 u21 u22 u23 u24 u25 u26 u27 u28 u29 u30 u31 u32:Value),a' = { tmps:=#[.slice a n cap,undef,.slice none 0 0,.bool false,.pointer (some ⟨w.heap.size+1,0,none⟩),u5,u6,u7,u8,u9,u10,u11,u12,u13,u14,u15,u16,u17,u18,u19,u20,u21,u22,u23,u24,u25,u26,u27,u28,u29,u30,u31,u32],defers:=[] }∧Hd (F=none∧Ext w wr)) rfl rfl ?_ ?_ ?_
 ·rintro k a' wr ⟨u5,u6,u7,u8,u9,u10,u11,u12,u13,u14,u15,u16,u17,u18,u19,u20,u21,u22,u23,u24,u25,u26,u27,u28,u29,u30,u31,u32,rfl,st,oa,oc,hJ⟩
  have hE:=(zu hJ).eq;cases k with
  | zero=>rw[kRun] at hE;cases hE
  | succ k =>
  rw[kRun] at hE;have S:=(zu hJ).S;rw[hN] at S;have hlen:=(zu hJ).len;have c3:wr.cell? ⟨w.heap.size+1,3,none⟩=some (.bool st.f):=k_rowC S.rB 3 rfl;have c2:wr.cell? ⟨w.heap.size+1,2,none⟩=some (.slice oa st.op.length oc):=k_rowC S.rB 2 rfl;have c1:wr.cell? ⟨w.heap.size+1,1,none⟩=some (.slice (some ⟨w.heap.size,0,none⟩) n n):=k_rowC S.rB 1 rfl;have HS:=zh S;clear S;cases hf:st.f with
  | true =>
   rw[hf] at hE c3;have HZ:Hd (F=none∧Ext w wr):=by
    simp only[if_pos] at hE;rw[hf] at hE;simp at hE;exact⟨hE.symm,(zu HS).ext⟩
   clear hE hf
   go_wp2_with fail
   go_step3
   refine Or.inr ?_;exact⟨rfl,_,_,_,_,_,_,_,_,_,_,_,_,_,_,_,_,_,_,_,_,_,_,_,_,_,_,_,_,rfl,HZ⟩
  | false =>
   rw[hf] at hE c3;cases hop:st.op with
   | nil =>
    rw[hop] at hE c2;simp only[List.length_nil] at c2;have HZ:Hd (F=some st.hs):=by
     simp[hf] at hE;exact hE.symm
    clear hE
    go_wp2_with fail
    simp only[KTwo];have hS:=zu HS;rw[zu HZ];exact bodyPost_ret (v:=.tuple #[.slice (some ⟨w.heap.size,0,none⟩) n n,.bool true]) (by simp[results,Tryz.results51,go_sem]) rfl ⟨hS.ok.1,hS.ok.2.2,rfl,hS.tells,hS.ext⟩
   | cons j r =>
    rw[hop] at hE c2;have hj:j < n:=(zu HS).ok.2.1 j (by rw[hop];exact List.mem_cons_self ..);have hol:r.length+1+(k+1)≤K+1:=by have h0:=hlen;rw[hop] at h0;simp at h0;omega
    have HOP:=zh hop;have HF1:=zh hf;have HEq:Hd ((match kRun code k (kLeave code ⟨st.hs,r,st.f⟩ j) with | none=>none | some st=>if st.f then some none else some (some st.hs))=some F):=by
     simp at hE;rw[hf];exact hE
    have hlv:=(kLeave_len code ⟨st.hs,r,st.f⟩ j).2;have HL2:=zh hlv;simp only[List.length_cons] at c2;clear hE hf hop hlen hlv
    go_wp2_with (first
     | (go_at_call 86;refine Calls.mono (zu HTk wr st oa oc j r (zu HS) (zu HOP) ?h1) ?_;rotate_left 1;rintro e w1 ⟨rfl,oa1,oc1,s1⟩;have S1:=zh s1;clear s1)
     | (go_at_call 85;refine Calls.mono (zu HLv w1 ⟨st.hs,r,st.f⟩ oa1 oc1 j (zu S1) hj ?h2) ?_;rotate_left 1;rintro e w2 ⟨rfl,oa2,oc2,s2,f2⟩;have S2:=zh s2;clear s2 f2))
    case h1=>rw[zu HOP];simp;omega
    case h2=>show r.length≤_;omega
    go_step3
    refine Or.inl ?_;refine⟨rfl,k,by omega,_,_,_,_,_,_,_,_,_,_,_,_,_,_,_,_,_,_,_,_,_,_,_,_,_,_,_,_,rfl,_,oa2,oc2,⟨by rw[hN];exact zu S2,zu HEq,?_⟩⟩;have h0:=zu HL2;omega
 ·rintro a' wr ⟨u5,u6,u7,u8,u9,u10,u11,u12,u13,u14,u15,u16,u17,u18,u19,u20,u21,u22,u23,u24,u25,u26,u27,u28,u29,u30,u31,u32,rfl,hJ⟩
  go_wp2_with fail
  simp only[Exit.noGoto];have hz:=zu hJ;rw[hz.1];exact bodyPost_ret (v:=.tuple #[.slice none 0 0,.bool false]) (by simp[results,Tryz.results51,go_sem]) rfl ⟨rfl,hz.2⟩
 ·intro HJ1
  have H1:=zh HJ1;clear HJ1
  go_wp2_with fail
  go_loopw [14] (fun t wr => ∃ (k:Nat),t = .int .i64 k∧k≤n∧Hd (HtI w wr a cap n k)) (fun t _=>n - (intOf t).toNat)
  case atStart=>exact⟨0,rfl,by omega,HI0⟩
  case round =>
   obtain⟨k,rfl,hk,hI⟩:=hrel;have c1:wr.cell? ⟨w.heap.size+1,1,none⟩=some (.slice (some ⟨w.heap.size,0,none⟩) n n):=k_rowC (zu hI).rB 1 rfl;by_cases hlt:k < n
   ·have cx:wr.cell? ⟨w.heap.size,k,none⟩=some (.int .i64 0):=k_rowC (zu hI).rH k (rH_at (by
     rw[List.getElem?_append_right (by simp),List.length_replicate,Nat.sub_self,List.getElem?_replicate,if_pos (by omega)]))
    have fx:=k_rowF (zu hI).rH k
    go_wp2_with fail
    go_roundw
    case rel=>exact⟨k+1,by go_num,by omega,(zu hI).step hlt⟩
    case measure=>simp[intOf];omega
   ·obtain rfl:k=n:=by omega
    have S0:=zh (zu hI).done
    go_wp2_with (go_at_call 84;refine Calls.mono (zu HCm wr _ none 0 0 0 (zu S0) (by simp) hn (by omega)) ?_;rintro e w1 ⟨rfl,oa1,oc1,s1,f1⟩;have S1:=zh s1;clear s1 f1)
    refine wp_label ?_;rename_i hKK;refine hKK _ _ (zu H1 K _ _ ⟨_,_,_,_,_,_,_,_,_,_,_,_,_,_,_,_,_,_,_,_,_,_,_,_,_,_,_,_,rfl,_,oa1,oc1,⟨by rw[hN];exact zu S1,?_,?_⟩⟩)
    ·have h0:=zu HF
     unfold kHts at h0;rw[hN] at h0;exact h0
    ·have h0:=(kCome_len k ⟨List.replicate k (-1),[],false⟩ ((0:Nat):Int) 0).2
     simp only[List.length_nil] at h0;omega
end V
end Go.Proofs.YtjnpehohialmbaaGreat
