/- Ticks: a call has its own;what counts for a cycle. -/
import Derived.Test.YtjnpehohialmbaaGreatZs29
set_option linter.unusedSimpArgs false
set_option linter.unusedVariables false
set_option maxRecDepth 10000
set_option maxHeartbeats 1000000
namespace Go.Proofs.YtjnpehohialmbaaGreat
open Go.RowKit
namespace V
def kCallT (code:List KI) (j:Nat):Option Bool :=
 match code[j]? with
 | none=>none
 | some i =>
  if i.op=9 then (match j with
   | 0=>some false
   | p+1=>match code[p]? with
    | none=>none
    | some q=>some (decide (q.op=12)))
  else if i.op=7∨i.op=8 then (if i.a < 0 then none else match code[i.a.toNat]? with
    | none=>none
    | some q=>some (decide (¬ q.op=9)))
  else some true
def kCnt (code:List KI) (hs:List Int) (j:Nat):Option Bool :=
 match hs[j]?,code[j]? with
 | some x,some i=>some (decide (¬ x = -1) && decide (¬ i.op=12))
 | _,_=>none
theorem callT_any (code:List KI) (j:Nat) (r:Bool) (a:Option Addr) (cap:Nat) (w:World) (hc:RepC w (In w) a code) (hn:code.length≤1000000) (hr:kCallT code j=some r) :
  Calls Tryz.prog 87 #[.slice a code.length cap,.int .i64 (j:Int)] w fun e w'=>e = .returned (.bool r)∧Ext w w':=by
 unfold kCallT at hr;cases hi:code[j]? with
 | none=>rw[hi] at hr;cases hr
 | some i =>
 rw[hi] at hr;simp only at hr;obtain⟨b,o,rfl,hf,d0,d1,d2⟩:=hc.at hi;have hj:j < code.length:=(List.getElem?_eq_some_iff.1 hi).1;obtain⟨p,x,y⟩:=i;simp only at d0 d1 d2 hr;by_cases h9:p=9
 ·subst h9
  rw[if_pos rfl] at hr;cases j with
  | zero =>
   simp only at hr;injection hr with hr;subst hr;generalize code.length=n at *;clear hc hi;rw[Nat.zero_mul,Nat.add_zero] at d0 d1 d2;show Calls Tryz.prog 87 #[.slice (some ⟨b,o,none⟩) n cap,.int .i64 0] w _
   go_enter Tryz.func87,Tryz.ntmps87
   go_wp2_with fail
   go_ret;exact⟨rfl,Ext.alloc _ _⟩
  | succ j =>
   simp only at hr;cases hq:code[j]? with
   | none=>rw[hq] at hr;cases hr
   | some q =>
   rw[hq] at hr;injection hr with hr;obtain⟨b2,o2,e2,_,q0,q1,q2⟩:=hc.at hq;injection e2 with e2;injection e2 with e2 e3;subst e2 e3;have hq0:=(Ext.alloc w (.cells #[.int .i64 9,.int .i64 x,.int .i64 y] 128)).cell q0;have hj2:((j:Int)+1 - 1)=(j:Int):=by omega
   have ht:(q.op == 12)=r:=by rw[← hr];by_cases h:q.op=12 <;> simp[h]
   generalize code.length=n at *;clear hc hi hq hr
   go_enter Tryz.func87,Tryz.ntmps87
   go_wp2_with fail
   go_ret;exact⟨ret_bool (by first | rfl | exact ht | simpa using ht),Ext.alloc _ _⟩
 ·rw[if_neg h9] at hr
  by_cases h78:p=7∨p=8
  ·rw[if_pos h78] at hr
   by_cases hx:x < 0
   ·rw[if_pos hx] at hr;cases hr
   ·rw[if_neg hx] at hr
    obtain⟨z,rfl⟩:∃ z:Nat,x=z:=⟨x.toNat,by omega⟩;rw[show ((z:Int)).toNat=z by omega] at hr;cases hq:code[z]? with
    | none=>rw[hq] at hr;cases hr
    | some q =>
    rw[hq] at hr;injection hr with hr;obtain⟨b2,o2,e2,_,q0,q1,q2⟩:=hc.at hq;have hz:z < code.length:=(List.getElem?_eq_some_iff.1 hq).1;injection e2 with e2;injection e2 with e2 e3;subst e2 e3;have ht:(q.op != 9)=r:=by rw[← hr];by_cases h:q.op=9 <;> simp[h]
    generalize code.length=n at *;have hq0:=fun ob=>(Ext.alloc w ob).cell q0;clear hc hi hq hr hx h9;rcases h78 with rfl | rfl
    all_goals
     go_enter Tryz.func87,Tryz.ntmps87
     go_wp2_with fail
     go_ret;exact⟨ret_bool (by first | rfl | exact ht | simpa using ht),Ext.alloc _ _⟩
  ·rw[if_neg h78] at hr
   injection hr with hr;subst hr;have h7:(p == 7)=false:=by rw[beq_eq_false_iff_ne];omega
   have h8:(p == 8)=false:=by rw[beq_eq_false_iff_ne];omega
   have h9':(p == 9)=false:=by rw[beq_eq_false_iff_ne];exact h9
   generalize code.length=n at *;clear hc hi h78 h9
   go_enter Tryz.func87,Tryz.ntmps87
   go_wp2_with fail
   go_ret;exact⟨rfl,Ext.alloc _ _⟩
/-- The closure that tells whether a place counts. -/
theorem cnt_any (code:List KI) (hs:List Int) (j:Nat) (r:Bool) (a ha:Option Addr) (cap hcap X Y:Nat) (w:World) (hc:RepC w (In w) a code) (hh:RepZ w (In w) ha hs) (hl:hs.length=code.length) (hn:code.length≤1000000) (hr:kCnt code hs j=some r)
  (hX:w.cell? ⟨X,0,none⟩=some (.slice a code.length cap)) (hY:w.cell? ⟨Y,0,none⟩=some (.slice ha code.length hcap)) :
  Calls Tryz.prog 107 #[.int .i64 (j:Int),.pointer (some ⟨Y,0,none⟩),.pointer (some ⟨X,0,none⟩)] w fun e w'=>e = .returned (.bool r)∧w' = w:=by
 unfold kCnt at hr;cases hx:hs[j]? with
 | none=>rw[hx] at hr;cases hr
 | some x =>
 cases hi:code[j]? with
 | none=>rw[hx,hi] at hr;cases hr
 | some i =>
 rw[hx,hi] at hr;injection hr with hr;obtain⟨b,o,rfl,hf,d0,d1,d2⟩:=hc.at hi;have hj:j < code.length:=(List.getElem?_eq_some_iff.1 hi).1;obtain⟨hb,rfl,hcell⟩:∃ hb,ha=some ⟨hb,0,none⟩∧w.cell? ⟨hb,j,none⟩=some (.int .i64 x):=by
  rcases hh with rfl | ⟨hb,rfl,_,h⟩
  ·simp at hx
  ·exact⟨hb,rfl,h j x hx⟩
 generalize code.length=n at *;clear hc hh hx hi hl;by_cases h1:x = -1
 ·have e1:(x != -1)=false:=by simp[h1]
  have hr:r=false:=by rw[← hr];simp[h1]
  subst hr;clear h1
  go_enter Tryz.func107,Tryz.ntmps107
  go_wp2_with fail
  go_ret;exact⟨rfl,rfl⟩
 ·have e1:(x != -1)=true:=by simp[h1]
  have ht:(i.op != 12)=r:=by rw[← hr];by_cases h:i.op=12 <;> simp[h,h1]
  clear h1 hr
  go_enter Tryz.func107,Tryz.ntmps107
  go_wp2_with fail
  go_ret;exact⟨ret_bool (by first | rfl | exact ht | simpa using ht),rfl⟩
end V
namespace V
def kAdd:List Int→List Int→Option (List Int)
 | [],into=>some into
 | to :: r,into=>if to < 0 then none else match into[to.toNat]? with
  | none=>none
  | some x=>if -1000000≤x∧x≤1000000 then kAdd r (into.set to.toNat (x+1)) else none
def kL1 (code:List KI) (hs:List Int):Nat→Nat→Int→List Int→Option (Int × List Int)
 | 0,_,left,into=>some (left,into)
 | m+1,j,left,into=>match kCnt code hs j with
  | none=>none
  | some false=>kL1 code hs m (j+1) left into
  | some true=>match kAdd (kNext code j) into with
   | none=>none
   | some into'=>kL1 code hs m (j+1) (left+1) into'
def kL2 (code:List KI) (hs into:List Int):Nat→Nat→List Nat→Option (List Nat)
 | 0,_,free=>some free
 | m+1,j,free=>match kCnt code hs j with
  | none=>none
  | some false=>kL2 code hs into m (j+1) free
  | some true=>match into[j]? with
   | none=>none
   | some x=>kL2 code hs into m (j+1) (if x=0 then j :: free else free)
def kSub (code:List KI) (hs:List Int):List Int→List Int→List Nat→Option (List Int × List Nat)
 | [],into,free=>some (into,free)
 | to :: r,into,free=>if to < 0 then none else match into[to.toNat]? with
  | none=>none
  | some x=>if -1000000≤x∧x≤1000000 then
    (if x - 1=0 then (match kCnt code hs to.toNat with
     | none=>none
     | some c=>kSub code hs r (into.set to.toNat (x - 1)) (if c then to.toNat :: free else free))
    else kSub code hs r (into.set to.toNat (x - 1)) free) else none
def kL4 (code:List KI) (hs:List Int):Nat→Int→List Int→List Nat→Option Int
 | 0,_,_,_=>none
 | k+1,left,into,free=>match free with
  | []=>some left
  | j :: r=>if -1000000≤left∧left≤1000000 then (match kSub code hs (kNext code j) into r with
   | none=>none
   | some q=>kL4 code hs k (left - 1) q.1 q.2) else none
def kCyc (code:List KI) (hs:List Int) (K:Nat):Option Bool :=
 match kL1 code hs code.length 0 0 (List.replicate code.length 0) with
 | none=>none
 | some q=>match kL2 code hs q.2 code.length 0 [] with
  | none=>none
  | some free=>match kL4 code hs K q.1 q.2 free with
   | none=>none
   | some l=>some (decide (0 < l))
structure CyS (w wr:World) (a:Option Addr) (cap:Nat) (ha:Option Addr) (hcap n:Nat) (into:List Int) (free:List Nat) (fa:Option Addr) (fc:Nat):Prop where
 ext:Ext w wr
 rX:wr.heap[w.heap.size]? = some (.cells #[.slice a n cap] 80 (0,0))
 rY:wr.heap[w.heap.size+1]? = some (.cells #[.slice ha n hcap] 77 (0,0))
 rI:wr.heap[w.heap.size+1+1]? = some (.cells (zs into).toArray 3 (0,0))
 len:into.length=n
 own:wr.ownsRow (w.heap.size+3) 3 1 (.slice fa free.length fc) free.length (ns free.reverse)
def NxR (w wr:World) (fa nb:Option Addr) (nx:List Int):Prop:=RepZ wr (fun b=>w.heap.size+3≤b∧b < wr.heap.size∧obk fa≠some b) nb nx
section
variable {w wr w2:World} {a:Option Addr} {cap:Nat} {ha:Option Addr} {hcap n:Nat} {into:List Int} {free:List Nat} {fa:Option Addr} {fc:Nat} {nb:Option Addr} {nx:List Int}
theorem CyS.on (h:CyS w wr a cap ha hcap n into free fa fc) (x:Ext wr w2):CyS w w2 a cap ha hcap n into free fa fc :=
 ⟨h.ext.trans x,(x.block _ (k_lt h.rX)).trans h.rX,(x.block _ (k_lt h.rY)).trans h.rY,(x.block _ (k_lt h.rI)).trans h.rI,h.len,k_own_heap h.own (fun i hi=>x.block i (h.own.lt i hi).2)⟩
theorem CyS.setI (h:CyS w wr a cap ha hcap n into free fa fc) (j:Nat) (v:Int):CyS w (wr.setCell ⟨w.heap.size+1+1,j,none⟩ (.int .i64 v)) a cap ha hcap n (into.set j v) free fa fc:=by
 refine⟨h.ext.set (by simp only;omega) _,k_row_other h.rX (by omega) _ _,k_row_other h.rY (by omega) _ _,?_,by simpa using h.len,k_own_heap h.own (fun i hi=>Below.heap_setCell _ _ _ _ (by have:=(h.own.lt i hi).1;simp only;omega))⟩;rw[k_row_set h.rI j (.int .i64 v)];simp[zs,List.map_set]
theorem CyS.pop {j:Nat} {r:List Nat} (h:CyS w wr a cap ha hcap n into (j :: r) fa fc):CyS w wr a cap ha hcap n into r fa fc:=by
 have ho:=k_own_prefix (m:=r.length) h.own (by simp);have e:(ns (j :: r).reverse).take (r.length * 1)=ns r.reverse:=by
  rw[Nat.mul_one];simp only[ns,List.reverse_cons,List.map_append];rw[List.take_append_of_le_length (by simp)];rw[List.take_of_length_le (by simp)]
 rw[e] at ho;exact⟨h.ext,h.rX,h.rY,h.rI,h.len,ho⟩
theorem CyS.top {j:Nat} {r:List Nat} (h:CyS w wr a cap ha hcap n into (j :: r) fa fc):∃ g,fa=some ⟨g,0,none⟩∧r.length+1≤fc∧wr.cell? ⟨g,r.length,none⟩=some (.int .i64 (j:Int)):=by
 have ho:=h.own;obtain⟨h1,⟨e,h0⟩ | ⟨g,cap2,cur,e,hb,hg,hn,_⟩⟩:=id ho
 ·simp at h0
 ·injection e with e1 e2 e3
  subst e1 e3;have hc:=ho.cells (g:=g) rfl r.length (.int .i64 (j:Int)) (by simp[ns]);rw[k_add] at hc;exact⟨g,rfl,hn,hc⟩
theorem CyS.push {j g' cap':Nat} {ob:Obj} (h:CyS w wr a cap ha hcap n into free fa fc) (g1:(wr.alloc ob).grownBy w2 (Value.slice fa free.length fc).ownBlock)
  (ho:w2.ownsRow (w.heap.size+3) 3 1 (.slice (some ⟨g',0,none⟩) (free.length+1) cap') (free.length+1) (ns free.reverse++[.int .i64 (j:Int)])):CyS w w2 a cap ha hcap n into (j :: free) (some ⟨g',0,none⟩) cap':=by
 have h2:=h.on (Ext.alloc wr ob);have hk:∀ i,i < w.heap.size+3→i < (wr.alloc ob).heap.size→w2.heap[i]? = (wr.alloc ob).heap[i]?:=fun i hi hl=>g1.block i hl (fun e=>by have:=(h2.own.lt i e.symm).1;omega);exact⟨Below.grown h2.ext g1 h2.ext.size (fun j hj=>by have:=(h2.own.lt j hj).1;omega),(hk _ (by omega) (k_lt h2.rX)).trans h2.rX,(hk _ (by omega) (k_lt h2.rY)).trans h2.rY,(hk _ (by omega) (k_lt h2.rI)).trans h2.rI,h.len,by simpa [ns] using ho⟩
theorem NxR.on (h:NxR w wr fa nb nx) (x:Ext wr w2):NxR w w2 fa nb nx:=h.to fun b hb=>⟨⟨hb.1,Nat.lt_of_lt_of_le hb.2.1 x.size,hb.2.2⟩,x.block b hb.2.1⟩
theorem NxR.setI (h:NxR w wr fa nb nx) (j:Nat) (v:Value):NxR w (wr.setCell ⟨w.heap.size+1+1,j,none⟩ v) fa nb nx :=
 h.to fun b hb=>⟨⟨hb.1,by simp[World.setCell];exact hb.2.1,hb.2.2⟩,Below.heap_setCell _ _ _ _ (by have:=hb.1;simp only;omega)⟩
theorem NxR.push {g' m c:Nat} {ob:Obj} (h:NxR w wr fa nb nx) (g1:(wr.alloc ob).grownBy w2 (Value.slice fa m c).ownBlock) (hw:(Value.slice fa m c).ownBlock=some g'∨(wr.alloc ob).heap.size≤g'):NxR w w2 (some ⟨g',0,none⟩) nb nx:=by
 refine(h.on (Ext.alloc wr ob)).to fun b hb=>⟨⟨hb.1,Nat.lt_of_lt_of_le hb.2.1 g1.size,fun e => ?_⟩,g1.block b hb.2.1 (fun e=>hb.2.2 (by rw[obk_eq] at e;exact e.symm))⟩;simp only[obk,Value.ownBlock,Option.some.injEq] at e;subst e;rcases hw with e | e
 ·rw[obk_eq] at e
  exact hb.2.2 e
 ·have:=hb.2.1;omega
theorem NxR.new {w3:World} (hs:w.heap.size+3≤wr.heap.size) (hf:∀ k,obk fa=some k→k < wr.heap.size) (h:RepZ w3 (Fr2 wr w3) nb nx):NxR w w3 fa nb nx :=
 h.to fun b hb=>⟨⟨Nat.le_trans hs hb.1,hb.2,fun e=>by have:=hf b e;have:=hb.1;omega⟩,rfl⟩
theorem NxR.at {j:Nat} {x:Int} (h:NxR w wr fa nb nx) (hx:nx[j]? = some x):∃ b,nb=some ⟨b,0,none⟩∧wr.cell? ⟨b,j,none⟩=some (.int .i64 x):=by
 rcases h with h | ⟨b,e,_,hc⟩
 ·rw[h] at hx;simp at hx
 ·exact⟨b,e,hc j x hx⟩
theorem CyS.fresh (h:CyS w wr a cap ha hcap n into free fa fc):w.heap.size+3≤wr.heap.size∧∀ k,obk fa=some k→k < wr.heap.size :=
 ⟨k_lt h.rI,fun k e=>(h.own.lt k (by rw[obk_eq];exact e)).2⟩
end
end V
end Go.Proofs.YtjnpehohialmbaaGreat
