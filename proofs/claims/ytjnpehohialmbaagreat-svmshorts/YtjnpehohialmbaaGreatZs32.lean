/- Cycles without a tick,as the document looks for them. -/
import Derived.Test.YtjnpehohialmbaaGreatZs54
set_option linter.unusedSimpArgs false
set_option linter.unusedVariables false
set_option maxRecDepth 10000
set_option maxHeartbeats 2000000
namespace Go.Proofs.YtjnpehohialmbaaGreat
open Go.RowKit
namespace V
structure RcS (w wr:World) (n:Nat) (into:List Int) (free:List Nat) (fa:Option Addr) (fc:Nat):Prop where
 ext:Ext w wr
 rI:wr.heap[w.heap.size]? = some (.cells (zs into).toArray 3 (0,0))
 len:into.length=n
 own:wr.ownsRow (w.heap.size+1) 3 1 (.slice fa free.length fc) free.length (ns free.reverse)
def RxR (w wr:World) (fa nb:Option Addr) (nx:List Int):Prop:=RepZ wr (fun b=>w.heap.size+1≤b∧b < wr.heap.size∧obk fa≠some b) nb nx
section
variable {w wr w2:World} {n:Nat} {into:List Int} {free:List Nat} {fa:Option Addr} {fc:Nat} {nb:Option Addr} {nx:List Int}
theorem RcS.on (h:RcS w wr n into free fa fc) (x:Ext wr w2):RcS w w2 n into free fa fc :=
 ⟨h.ext.trans x,(x.block _ (k_lt h.rI)).trans h.rI,h.len,k_own_heap h.own (fun i hi=>x.block i (h.own.lt i hi).2)⟩
theorem RcS.setI (h:RcS w wr n into free fa fc) (j:Nat) (v:Int):RcS w (wr.setCell ⟨w.heap.size,j,none⟩ (.int .i64 v)) n (into.set j v) free fa fc:=by
 refine⟨h.ext.set (by simp only;omega) _,?_,by simpa using h.len,k_own_heap h.own (fun i hi=>Below.heap_setCell _ _ _ _ (by have:=(h.own.lt i hi).1;simp only;omega))⟩;rw[k_row_set h.rI j (.int .i64 v)];simp[zs,List.map_set]
theorem RcS.pop {j:Nat} {r:List Nat} (h:RcS w wr n into (j :: r) fa fc):RcS w wr n into r fa fc:=by
 have ho:=k_own_prefix (m:=r.length) h.own (by simp);have e:(ns (j :: r).reverse).take (r.length * 1)=ns r.reverse:=by
  rw[Nat.mul_one];simp only[ns,List.reverse_cons,List.map_append];rw[List.take_append_of_le_length (by simp)];rw[List.take_of_length_le (by simp)]
 rw[e] at ho;exact⟨h.ext,h.rI,h.len,ho⟩
theorem RcS.top {j:Nat} {r:List Nat} (h:RcS w wr n into (j :: r) fa fc):∃ g,fa=some ⟨g,0,none⟩∧r.length+1≤fc∧wr.cell? ⟨g,r.length,none⟩=some (.int .i64 (j:Int)):=by
 have ho:=h.own;obtain⟨h1,⟨e,h0⟩ | ⟨g,cap2,cur,e,hb,hg,hn,_⟩⟩:=id ho
 ·simp at h0
 ·injection e with e1 e2 e3
  subst e1 e3;have hc:=ho.cells (g:=g) rfl r.length (.int .i64 (j:Int)) (by simp[ns]);rw[k_add] at hc;exact⟨g,rfl,hn,hc⟩
theorem RcS.push {j g' cap':Nat} {ob:Obj} (h:RcS w wr n into free fa fc) (g1:(wr.alloc ob).grownBy w2 (Value.slice fa free.length fc).ownBlock)
  (ho:w2.ownsRow (w.heap.size+1) 3 1 (.slice (some ⟨g',0,none⟩) (free.length+1) cap') (free.length+1) (ns free.reverse++[.int .i64 (j:Int)])):RcS w w2 n into (j :: free) (some ⟨g',0,none⟩) cap':=by
 have h2:=h.on (Ext.alloc wr ob);have hk:∀ i,i < w.heap.size+1→i < (wr.alloc ob).heap.size→w2.heap[i]? = (wr.alloc ob).heap[i]?:=fun i hi hl=>g1.block i hl (fun e=>by have:=(h2.own.lt i e.symm).1;omega);exact⟨Below.grown h2.ext g1 h2.ext.size (fun j hj=>by have:=(h2.own.lt j hj).1;omega),(hk _ (by omega) (k_lt h2.rI)).trans h2.rI,h.len,by simpa [ns] using ho⟩
theorem RxR.on (h:RxR w wr fa nb nx) (x:Ext wr w2):RxR w w2 fa nb nx:=h.to fun b hb=>⟨⟨hb.1,Nat.lt_of_lt_of_le hb.2.1 x.size,hb.2.2⟩,x.block b hb.2.1⟩
theorem RxR.setI (h:RxR w wr fa nb nx) (j:Nat) (v:Value):RxR w (wr.setCell ⟨w.heap.size,j,none⟩ v) fa nb nx :=
 h.to fun b hb=>⟨⟨hb.1,by simp[World.setCell];exact hb.2.1,hb.2.2⟩,Below.heap_setCell _ _ _ _ (by have:=hb.1;simp only;omega)⟩
theorem RxR.push {g' m c:Nat} {ob:Obj} (h:RxR w wr fa nb nx) (g1:(wr.alloc ob).grownBy w2 (Value.slice fa m c).ownBlock) (hw:(Value.slice fa m c).ownBlock=some g'∨(wr.alloc ob).heap.size≤g'):RxR w w2 (some ⟨g',0,none⟩) nb nx:=by
 refine(h.on (Ext.alloc wr ob)).to fun b hb=>⟨⟨hb.1,Nat.lt_of_lt_of_le hb.2.1 g1.size,fun e => ?_⟩,g1.block b hb.2.1 (fun e=>hb.2.2 (by rw[obk_eq] at e;exact e.symm))⟩;simp only[obk,Value.ownBlock,Option.some.injEq] at e;subst e;rcases hw with e | e
 ·rw[obk_eq] at e
  exact hb.2.2 e
 ·have:=hb.2.1;omega
theorem RxR.new {w3:World} (hs:w.heap.size+1≤wr.heap.size) (hf:∀ k,obk fa=some k→k < wr.heap.size) (h:RepZ w3 (Fr2 wr w3) nb nx):RxR w w3 fa nb nx :=
 h.to fun b hb=>⟨⟨Nat.le_trans hs hb.1,hb.2,fun e=>by have:=hf b e;have:=hb.1;omega⟩,rfl⟩
theorem RxR.at {j:Nat} {x:Int} (h:RxR w wr fa nb nx) (hx:nx[j]? = some x):∃ b,nb=some ⟨b,0,none⟩∧wr.cell? ⟨b,j,none⟩=some (.int .i64 x):=by
 rcases h with h | ⟨b,e,_,hc⟩
 ·rw[h] at hx;simp at hx
 ·exact⟨b,e,hc j x hx⟩
theorem RcS.fresh (h:RcS w wr n into free fa fc):w.heap.size+1≤wr.heap.size∧∀ k,obk fa=some k→k < wr.heap.size :=
 ⟨k_lt h.rI,fun k e=>(h.own.lt k (by rw[obk_eq];exact e)).2⟩
end
def Rd (hs:List Int) (j:Nat):Prop:=∃ x,hs[j]? = some x∧x≠-1
theorem kCnt_parts {code:List KI} {hs:List Int} {j:Nat} {c:Bool} (h:kCnt code hs j=some c):∃ x i,hs[j]? = some x∧code[j]? = some i∧c=(decide (¬ x = -1) && decide (¬ i.op=12)):=by
 unfold kCnt at h;cases hx:hs[j]? with
 | none=>rw[hx] at h;simp at h
 | some x =>
  cases hi:code[j]? with
  | none=>rw[hx,hi] at h;simp at h
  | some i =>
   rw[hx,hi] at h;injection h with h;exact⟨x,i,rfl,rfl,h.symm⟩
theorem rcirc_w (code:List KI) (hs:List Int) (a ha:Option Addr) (cap hcap K:Nat) (r:Bool) (w:World) (hc:RepC w (In w) a code) (hh:RepZ w (In w) ha hs) (hl:hs.length=code.length) (hn:code.length≤1000000) (hK:K≤1000000) (hge:∀ x ∈ hs,-1≤x) (hcl:∀ (j:Nat),Rd hs j→∀ to ∈ kNext code (j:Int),Rd hs to.toNat) (hr:kCyc code hs K=some r) :
  Calls Tryz.prog 80 #[.slice a code.length cap,.slice ha code.length hcap] w fun e w'=>e = .returned (.bool r)∧Ext w w':=by
 have hmk:=make_ints code.length hn w;have HN:=zh (fun (W:World) (e:Ext w W) (j:Nat)=>rnext_any code j a cap W (hc.ext e) hn);have HCc:=zh (fun (W:World) (e:Ext w W) (j:Nat) (i:KI) (hi:code[j]? = some i)=>(hc.ext e).at hi);have HHc:Hd (∀ (W:World),Ext w W→∀ (j:Nat) (x:Int),hs[j]? = some x→∃ b,ha=some ⟨b,0,none⟩∧W.cell? ⟨b,j,none⟩=some (.int .i64 x)):=fun W e j x hx=>by
  rcases hh.ext e with h0 | ⟨b,h1,_,h3⟩
  ·rw[h0] at hx;simp at hx
  ·exact⟨b,h1,h3 j x hx⟩
 have HGe:=zh hge;have HCl:=zh hcl;unfold kCyc at hr;cases h1:kL1 code hs code.length 0 0 (List.replicate code.length 0) with
 | none=>rw[h1] at hr;cases hr
 | some q =>
 rw[h1] at hr;simp only at hr;obtain⟨left1,into1⟩:=q;simp only at hr;cases h2:kL2 code hs into1 code.length 0 [] with
 | none=>rw[h2] at hr;cases hr
 | some free2 =>
 rw[h2] at hr;simp only at hr;cases h4:kL4 code hs K left1 into1 free2 with
 | none=>rw[h4] at hr;cases hr
 | some lf =>
 rw[h4] at hr;injection hr with hr;have H1:=zh h1;have H2:=zh h2;have H4:=zh h4;have HR:=zh hr;clear h1 h2 h4 hr hc hh hl hge hcl;have hz0:(zs (List.replicate code.length 0)).toArray=Array.replicate code.length (.int .i64 0):=by simp[zs]
 generalize hN:code.length=n at *;have HI0:Hd (RcS w (w.alloc (.cells (zs (List.replicate n 0)).toArray 3)) n (List.replicate n 0) [] none 0) :=
  ⟨Ext.alloc _ _,Go.heap_alloc_new w _,by simp,World.ownsRow_nil _ _ _ _⟩
 rw[hz0] at HI0;obtain⟨i0,hi,hz1,hz2,hz3⟩:=k_info;have HI:=zh hi;have Z0:=zh hz1;have Z1:=zh hz2;have Z2:=zh hz3;clear hi hz1 hz2 hz3 hz0
 go_enter Tryz.func80,Tryz.ntmps80
 go_wp2_with fail
 go_loopw [6,8] (fun t5 t22 wr => ∃ (k:Nat) (left:Int) (into:List Int),t22 = .int .i64 k∧t5 = .int .i64 left∧k≤n∧0≤left∧left≤k∧Hd (kL1 code hs (n - k) k left into=some (left1,into1))∧Hd (RcS w wr n into [] none 0)) (fun _ t _=>n - (intOf t).toNat)
 case atStart=>exact⟨0,0,_,rfl,rfl,by omega,by omega,by omega,H1,HI0⟩
 case round =>
  clear HI0 H1;obtain⟨k,left,into,rfl,rfl,hk,hl0,hl1,hE,hI⟩:=hrel;by_cases hlt:k < n
  ·have hE2:=zu hE
   rw[kL1_step code hs hlt] at hE2;cases hcb:kCnt code hs k with
   | none=>rw[hcb] at hE2;cases hE2
   | some cb =>
   obtain⟨x,i,hx,hi,hcx⟩:=kCnt_parts hcb;have hx1:=zu HGe x (List.mem_of_getElem? hx);obtain⟨hb,rfl,cx⟩:=zu HHc wr (zu hI).ext k x hx;obtain⟨cb2,co,rfl,_,ci,_,_⟩:=zu HCc wr (zu hI).ext k i hi;cases cb with
   | false =>
    rw[hcb] at hE2;have HE2:=zh hE2;clear hE2 hcb hx hi;rcases (show x < 0∨(¬ x < 0∧i.op=12) by
     by_cases h9:x = -1
     ·exact Or.inl (by omega)
     ·refine Or.inr ⟨by omega,?_⟩
      rw[decide_eq_true h9,Bool.true_and] at hcx;have:=of_decide_eq_false hcx.symm;omega) with h9 | ⟨h9,h8⟩
    ·clear hcx
     go_wp2_with fail
     go_roundw
     case rel=>exact⟨k+1,left,into,by go_num,rfl,by omega,by omega,by omega,HE2,hI⟩
     case measure=>simp[intOf];omega
    ·clear hcx
     rw[h8] at ci
     go_wp2_with fail
     go_roundw
     case rel=>exact⟨k+1,left,into,by go_num,rfl,by omega,by omega,by omega,HE2,hI⟩
     case measure=>simp[intOf];omega
   | true =>
    rw[hcb] at hE2;simp only at hE2;cases hA:kAdd (kNext code k) into with
    | none=>rw[hA] at hE2;cases hE2
    | some into' =>
    rw[hA] at hE2;have HE2:=zh hE2;have HA:=zh hA;have h9:¬ x < 0:=by
     intro h;rw[decide_eq_false (show ¬ ¬ x = -1 by omega)] at hcx;cases hcx
    have h8:(i.op == 12)=false:=by
     rw[decide_eq_true (show ¬ x = -1 by omega),Bool.true_and] at hcx;have:=of_decide_eq_true hcx.symm
     simpa using this
    clear hE2 hcb hA hcx hx hi
    go_wp2_with (go_at_call 79;refine Calls.mono (zu HN _ (zu hI).ext k) ?_;rintro e w3 ⟨nb,nc,rfl,r1,r2,r3⟩;have R2:=zh (RxR.new (zu hI).fresh.1 (zu hI).fresh.2 r2);have I3:=zh ((zu hI).on r3);clear r1 r2 r3)
    have hNL:=kNext_len code (k:Int);generalize hNX:kNext code (k:Int)=NX at *;clear cx ci
    go_loopw [10] (fun t wr => ∃ (m:Nat) (it:List Int),t = .int .i64 m∧m≤NX.length∧Hd (kAdd (NX.drop m) it=some into')∧Hd (RcS w wr n it [] none 0)∧Hd (RxR w wr none nb NX)) (fun t _=>NX.length - (intOf t).toNat)
    case atStart=>exact⟨0,into,rfl,by omega,HA,I3,R2⟩
    case round =>
     clear I3 R2 HA hI hE;obtain⟨m,it,rfl,hm,hA,hI,hR⟩:=hrel;by_cases hlm:m < NX.length
     ·have hA2:=zu hA
      obtain⟨to,hto⟩:∃ to,NX[m]? = some to:=⟨_,List.getElem?_eq_getElem hlm⟩;have hd:NX.drop m=to :: NX.drop (m+1):=by
       obtain⟨h1,h2⟩:=List.getElem?_eq_some_iff.1 hto;rw[List.drop_eq_getElem_cons h1,h2]
      rw[hd,kAdd] at hA2;by_cases ht0:to < 0
      ·rw[if_pos ht0] at hA2;cases hA2
      rw[if_neg ht0] at hA2;obtain⟨t,rfl⟩:∃ t:Nat,to=t:=⟨to.toNat,by omega⟩;rw[show ((t:Int)).toNat=t by omega] at hA2;cases hx:it[t]? with
      | none=>rw[hx] at hA2;cases hA2
      | some x =>
      rw[hx] at hA2;simp only at hA2;by_cases hxb:-1000000≤x∧x≤1000000
      ·rw[if_pos hxb] at hA2
       have HA2:=zh hA2;obtain⟨nbb,rfl,hcell⟩:=(zu hR).at hto;have cI:wr.cell? ⟨w.heap.size,t,none⟩=some (.int .i64 x):=k_rowC (zu hI).rI t (rH_at hx);have fI:=k_rowF (zu hI).rI t;have htl:t < n:=by rw[← (zu hI).len];exact(List.getElem?_eq_some_iff.1 hx).1
       clear hA2 hd hto hx ht0
       go_wp2_with fail
       go_roundw
       case rel=>exact⟨m+1,_,by go_num,by omega,HA2,(zu hI).setI t (x+1),(zu hR).setI t _⟩
       case measure=>simp[intOf];omega
      ·rw[if_neg hxb] at hA2;cases hA2
     ·obtain rfl:m=NX.length:=by omega
      have hit:Hd (it=into'):=by
       have:=zu hA;rw[List.drop_length,kAdd] at this;injection this
      go_wp2_with fail
      go_roundw
      case rel=>exact⟨k+1,left+1,it,by go_num,by go_num,by omega,by omega,by omega,by rw[zu hit];exact HE2,hI⟩
      case measure=>simp[intOf];omega
  ·obtain rfl:k=n:=by omega
   have hq:=zu hE;rw[Nat.sub_self,kL1] at hq;injection hq with hq;injection hq with hq1 hq2;subst hq1 hq2;clear hE hlt hk
   go_wp2_with fail
   go_loopw [7,11] (fun t11 t48 wr => ∃ (m:Nat) (free:List Nat) (fa:Option Addr) (fc:Nat),t48 = .int .i64 m∧t11 = .slice fa free.length fc∧m≤k∧free.length≤m∧Hd (kL2 code hs into (k - m) m free=some free2)∧Hd (RcS w wr k into free fa fc)∧Hd (∀ q ∈ free,Rd hs q)) (fun _ t _=>k - (intOf t).toNat)
   case atStart=>exact⟨0,[],none,0,rfl,rfl,by omega,by simp,H2,hI,fun q hq=>by cases hq⟩
   case round =>
    clear hI H2;obtain⟨m,free,fa,fc,rfl,rfl,hm,hfl,hE,hI,hFr⟩:=hrel;by_cases hlt:m < k
    ·have hE2:=zu hE
     rw[kL2_step code hs into hlt] at hE2;cases hcb:kCnt code hs m with
     | none=>rw[hcb] at hE2;cases hE2
     | some cb =>
     obtain⟨y,i,hy,hi,hcx⟩:=kCnt_parts hcb;have hy1:=zu HGe y (List.mem_of_getElem? hy);obtain⟨hb,rfl,cx⟩:=zu HHc wr (zu hI).ext m y hy;obtain⟨cb2,co,rfl,_,ci,_,_⟩:=zu HCc wr (zu hI).ext m i hi;cases cb with
     | false =>
      rw[hcb] at hE2;have HE2:=zh hE2;clear hE2 hcb hy hi;rcases (show y < 0∨(¬ y < 0∧i.op=12) by
       by_cases h9:y = -1
       ·exact Or.inl (by omega)
       ·refine Or.inr ⟨by omega,?_⟩
        rw[decide_eq_true h9,Bool.true_and] at hcx;have:=of_decide_eq_false hcx.symm;omega) with h9 | ⟨h9,h8⟩
      ·clear hcx
       have h99:(decide (0≤y))=false:=decide_eq_false (by omega)
       go_wp2_with fail
       go_roundw
       case rel=>exact⟨m+1,free,fa,fc,by go_num,rfl,by omega,by omega,HE2,hI,hFr⟩
       case measure=>simp[intOf];omega
      ·clear hcx
       have h99:0≤y:=by omega
       rw[h8] at ci
       go_wp2_with fail
       go_roundw
       case rel=>exact⟨m+1,free,fa,fc,by go_num,rfl,by omega,by omega,HE2,hI,hFr⟩
       case measure=>simp[intOf];omega
     | true =>
      rw[hcb] at hE2;simp only at hE2;have h9:0≤y:=by
       by_cases h:y = -1
       ·rw[decide_eq_false (show ¬ ¬ y = -1 by omega)] at hcx;cases hcx
       ·omega
      have h8:(i.op == 12)=false:=by
       rw[decide_eq_true (show ¬ y = -1 by omega),Bool.true_and] at hcx;have:=of_decide_eq_true hcx.symm
       simpa using this
      have h88:(i.op != 12)=true:=by simpa using h8
      have HRm:Hd (Rd hs m):=⟨y,hy,by omega⟩;cases hx:into[m]? with
      | none=>rw[hx] at hE2;cases hE2
      | some x =>
      rw[hx] at hE2;simp only at hE2;have cI:wr.cell? ⟨w.heap.size,m,none⟩=some (.int .i64 x):=k_rowC (zu hI).rI m (rH_at hx);by_cases hx0:x=0
      ·rw[if_pos hx0] at hE2
       have HE2:=zh hE2;subst hx0;have HO:Hd (∀ ob,(wr.alloc ob).ownsRow (w.heap.size+1) 3 1 (.slice fa free.length fc) free.length (ns free.reverse)):=fun ob=>((zu hI).on (Ext.alloc wr ob)).own;have HL:Hd (∀ ob,w.heap.size+1≤(wr.alloc ob).heap.size):=fun ob=>Nat.le_trans (zu hI).fresh.1 (Ext.alloc wr ob).size;have HP:=zh (fun (w2:World) (ob:Obj) (g' cap':Nat)=>(zu hI).push (w2:=w2) (ob:=ob) (g':=g') (cap':=cap') (j:=m));clear hE2 hcb hx hcx hy hi;generalize ns free.reverse=XS at HO HP
       go_wp2_with (at_builtin;refine kapp_list rfl (.tmp 83) (.tmp 85) 77 rfl (w.heap.size+1) 3 i0 (.int .i64 0) 1 8 Tryz.underlying77 (zu HI) (zu Z0) (zu Z1) (zu Z2) rfl (by decide) fa free.length fc _ rfl (zu HO _) ⟨wr.heap.size,0,none⟩ 1 1 [.int .i64 (m:Int)] rfl (by decide) rfl (k_new _ _ rfl _ _) (k_one_int _) ?c1 ?c2 (zu HL _) ?_)
       case c1=>unfold maxLen;omega
       case c2=>omega
       intro g' cap' w3 ho hg hw;have HW:=zh (zu HP w3 _ g' cap' hg ho);clear ho hg hw
       go_wp2_with fail
       go_roundw
       case rel=>exact⟨m+1,m :: free,_,cap',by go_num,rfl,by omega,by simp;omega,HE2,HW,fun q hq=>by
        rcases List.mem_cons.1 hq with rfl | hq
        ·exact zu HRm
        ·exact zu hFr q hq⟩
       case measure=>simp[intOf];omega
      ·rw[if_neg hx0] at hE2
       have HE2:=zh hE2;have hxf:(x == 0)=false:=by rw[beq_eq_false_iff_ne];exact hx0
       clear hE2 hcb hx hx0 hcx hy hi
       go_wp2_with fail
       go_roundw
       case rel=>exact⟨m+1,free,fa,fc,by go_num,rfl,by omega,by omega,HE2,hI,hFr⟩
       case measure=>simp[intOf];omega
    ·obtain rfl:m=k:=by omega
     have hq:=zu hE;rw[Nat.sub_self,kL2] at hq;injection hq with hq;subst hq;clear hE hlt
     go_wp2_with fail
     go_loopg [6,7] K (fun gk t5 t11 wr => ∃ (lf':Int) (it:List Int) (fr:List Nat) (fa:Option Addr) (fc:Nat),t5 = .int .i64 lf'∧t11 = .slice fa fr.length fc∧Hd (kL4 code hs gk lf' it fr=some lf)∧Hd (RcS w wr m it fr fa fc)∧fr.length+2 * gk≤m+2 * K∧Hd (∀ q ∈ fr,Rd hs q))
     case atStart=>exact⟨left,into,free,fa,fc,rfl,rfl,H4,hI,by omega,hFr⟩
     case round =>
      clear hI H4 hFr;obtain⟨lf',it,fr,fa,fc,rfl,rfl,hE,hI,hfl,hFr⟩:=hrel;cases gk with
      | zero=>have h0:=zu hE;rw[kL4] at h0;cases h0
      | succ gk =>
      have hE2:=zu hE;cases fr with
      | nil =>
       rw[kL4] at hE2;injection hE2 with hE2;have HL:Hd (lf' = lf):=hE2;clear hE2
       go_wp2_with fail
       go_ret;refine⟨ret_bool ?_,(zu hI).ext⟩;rw[← zu HR,← zu HL]
      | cons j rr =>
       rw[kL4] at hE2;by_cases hlb:-1000000≤lf'∧lf'≤1000000
       ·rw[if_pos hlb] at hE2
        cases hS:kSub code hs (kNext code j) it rr with
        | none=>rw[hS] at hE2;cases hE2
        | some q =>
        rw[hS] at hE2;have HE2:=zh hE2;have HS:=zh hS;obtain⟨g,rfl,hgc,hct⟩:=(zu hI).top;have HI1:=zh (zu hI).pop;have hrl:rr.length+1+2 * (gk+1)≤m+2 * K:=by simpa using hfl
        have HNr:Hd (∀ to ∈ kNext code (j:Int),Rd hs to.toNat):=zu HCl j (zu hFr j (List.mem_cons_self ..));have HFr2:Hd (∀ q ∈ rr,Rd hs q):=fun q hq=>zu hFr q (List.mem_cons_of_mem _ hq);clear hE2 hS hfl hI hFr;simp only[List.length_cons]
        go_wp2_with (go_at_call 79;refine Calls.mono (zu HN _ (zu HI1).ext j) ?_;rintro e w3 ⟨nb,nc,rfl,r1,r2,r3⟩;have R2:=zh (RxR.new (zu HI1).fresh.1 (zu HI1).fresh.2 r2);have I3:=zh ((zu HI1).on r3);clear r1 r2 r3)
        have hNL:=kNext_len code (j:Int);generalize hNX:kNext code (j:Int)=NX at *
        go_loopw [7,14] (fun t11 t wr => ∃ (p:Nat) (it':List Int) (fr:List Nat) (fa:Option Addr) (fc:Nat),t = .int .i64 p∧t11 = .slice fa fr.length fc∧p≤NX.length∧fr.length≤rr.length+p∧Hd (kSub code hs (NX.drop p) it' fr=some q)∧Hd (RcS w wr m it' fr fa fc)∧Hd (RxR w wr fa nb NX)∧Hd (∀ q ∈ fr,Rd hs q)) (fun _ t _=>NX.length - (intOf t).toNat)
        case atStart=>exact⟨0,it,rr,_,fc,rfl,rfl,by omega,by omega,HS,I3,R2,HFr2⟩
        case round =>
         clear I3 R2 HS HI1 hE hct HFr2;obtain⟨p,it',fr,fa,fc,rfl,rfl,hp,hfr,hS,hI,hR,hFr⟩:=hrel;by_cases hlp:p < NX.length
         ·have hA2:=zu hS
          obtain⟨to,hto⟩:∃ to,NX[p]? = some to:=⟨_,List.getElem?_eq_getElem hlp⟩;have hd:NX.drop p=to :: NX.drop (p+1):=by
           obtain⟨h1,h2⟩:=List.getElem?_eq_some_iff.1 hto;rw[List.drop_eq_getElem_cons h1,h2]
          rw[hd,kSub] at hA2;have hRt:=zu HNr to (List.mem_of_getElem? hto);by_cases ht0:to < 0
          ·rw[if_pos ht0] at hA2;cases hA2
          rw[if_neg ht0] at hA2;obtain⟨t,rfl⟩:∃ t:Nat,to=t:=⟨to.toNat,by omega⟩;rw[show ((t:Int)).toNat=t by omega] at hA2 hRt;cases hx:it'[t]? with
          | none=>rw[hx] at hA2;cases hA2
          | some x =>
          rw[hx] at hA2;simp only at hA2;by_cases hxb:-1000000≤x∧x≤1000000
          ·rw[if_pos hxb] at hA2
           obtain⟨nbb,rfl,hcell⟩:=(zu hR).at hto;have cI:wr.cell? ⟨w.heap.size,t,none⟩=some (.int .i64 x):=k_rowC (zu hI).rI t (rH_at hx);have fI:=k_rowF (zu hI).rI t;have htl:t < m:=by rw[← (zu hI).len];exact(List.getElem?_eq_some_iff.1 hx).1
           have I1:=zh ((zu hI).setI t (x - 1));have R1:=zh ((zu hR).setI t (.int .i64 (x - 1)));have hcell2:(wr.setCell ⟨w.heap.size,t,none⟩ (.int .i64 (x - 1))).cell? ⟨nbb,p,none⟩=some (.int .i64 (t:Int)):=by
            obtain⟨b9,e9,c9⟩:=(zu R1).at hto;injection e9 with e9;injection e9 with e9 _;subst e9;exact c9
           have cI2:(wr.setCell ⟨w.heap.size,t,none⟩ (.int .i64 (x - 1))).cell? ⟨w.heap.size,t,none⟩=some (.int .i64 (x - 1)):=k_rowC (zu I1).rI t (rH_at (by rw[List.getElem?_set_self (List.getElem?_eq_some_iff.1 hx).1]));clear hd hto hx ht0 hI hR;by_cases hx1:x - 1=0
           ·rw[if_pos hx1] at hA2
            cases hcb:kCnt code hs t with
            | none=>rw[hcb] at hA2;cases hA2
            | some cb =>
            rw[hcb] at hA2;simp only at hA2;obtain⟨y,i,hy,hi,hcx⟩:=kCnt_parts hcb;have hyn:y≠-1:=by
             obtain⟨y2,h21,h22⟩:=hRt;rw[hy] at h21;injection h21 with h21;subst h21;exact h22
            rw[decide_eq_true hyn,Bool.true_and] at hcx;obtain⟨cb2,co,rfl,_,ci,_,_⟩:=zu HCc _ (zu I1).ext t i hi;have HRt:=zh hRt;have hxt:((x - 1) == 0)=true:=by simp[hx1]
            clear hcb hx1 hy hi hRt;cases cb with
            | false =>
             have h8:i.op=12:=by
              have:=of_decide_eq_false hcx.symm;omega
             rw[h8] at ci;have HA2:Hd (kSub code hs (NX.drop (p+1)) (it'.set t (x - 1)) fr=some q):=by unfold Hd;simpa using hA2
             clear hA2 hcx
             go_wp2_with fail
             go_roundw
             case rel=>exact⟨p+1,_,fr,fa,fc,by go_num,rfl,by omega,by omega,HA2,I1,R1,hFr⟩
             case measure=>simp[intOf];omega
            | true =>
             have h8:(i.op == 12)=false:=by
              have:=of_decide_eq_true hcx.symm
              simpa using this
             have h88:(i.op != 12)=true:=by simpa using h8
             have HA2:Hd (kSub code hs (NX.drop (p+1)) (it'.set t (x - 1)) (t :: fr)=some q):=by unfold Hd;simpa using hA2
             have hZ:(wr.setCell ⟨w.heap.size,t,none⟩ (.int .i64 (x - 1))).heap.size=wr.heap.size:=by simp[World.setCell]
             have HZ:=zh hZ;have HO:Hd (∀ ob,((wr.setCell ⟨w.heap.size,t,none⟩ (.int .i64 (x - 1))).alloc ob).ownsRow (w.heap.size+1) 3 1 (.slice fa fr.length fc) fr.length (ns fr.reverse)):=fun ob=>((zu I1).on (Ext.alloc _ ob)).own;have HL:Hd (∀ ob,w.heap.size+1≤((wr.setCell ⟨w.heap.size,t,none⟩ (.int .i64 (x - 1))).alloc ob).heap.size):=fun ob=>Nat.le_trans (zu I1).fresh.1 (Ext.alloc _ ob).size;have HP:=zh (fun (w2:World) (ob:Obj) (g' cap':Nat)=>(zu I1).push (w2:=w2) (ob:=ob) (g':=g') (cap':=cap') (j:=t));have HQ:=zh (fun (w2:World) (ob:Obj) (g':Nat)=>(zu R1).push (w2:=w2) (ob:=ob) (g':=g') (m:=fr.length) (c:=fc));clear hA2 hZ hcx;generalize ns fr.reverse=XS at HO HP
             go_wp2_with (at_builtin;refine kapp_list rfl (.tmp 140) (.tmp 145) 77 rfl (w.heap.size+1) 3 i0 (.int .i64 0) 1 8 Tryz.underlying77 (zu HI) (zu Z0) (zu Z1) (zu Z2) rfl (by decide) fa fr.length fc _ rfl (zu HO _) ⟨wr.heap.size,0,none⟩ 1 1 [.int .i64 (t:Int)] rfl (by decide) rfl (k_new _ _ (zu HZ).symm _ _) (k_one_int _) ?c1 ?c2 (zu HL _) ?_)
             case c1=>unfold maxLen;omega
             case c2=>omega
             intro g' cap' w3 ho hg hw;have HW:=zh (zu HP w3 _ g' cap' hg ho);have HV:=zh (zu HQ w3 _ g' hg (hw.imp id (fun e=>by rw[heap_alloc_size,zu HZ];exact e)));clear ho hg hw
             go_wp2_with fail
             go_roundw
             case rel=>exact⟨p+1,_,t :: fr,_,cap',by go_num,rfl,by omega,by simp;omega,HA2,HW,HV,fun q hq=>by
              rcases List.mem_cons.1 hq with rfl | hq
              ·exact zu HRt
              ·exact zu hFr q hq⟩
             case measure=>simp[intOf];omega
           ·rw[if_neg hx1] at hA2
            have HA2:=zh hA2;have hxt:((x - 1) == 0)=false:=by rw[beq_eq_false_iff_ne];exact hx1
            clear hA2 hx1 hRt
            go_wp2_with fail
            go_roundw
            case rel=>exact⟨p+1,_,fr,fa,fc,by go_num,rfl,by omega,by omega,HA2,I1,R1,hFr⟩
            case measure=>simp[intOf];omega
          ·rw[if_neg hxb] at hA2;cases hA2
         ·obtain rfl:p=NX.length:=by omega
          have hq:=zu hS;rw[List.drop_length,kSub] at hq;injection hq with hq;subst hq
          go_wp2_with fail
          go_roundg gk
          case measure=>omega
          case rel=>exact⟨lf' - 1,it',fr,fa,fc,by go_num,rfl,HE2,hI,by omega,hFr⟩
       ·rw[if_neg hlb] at hE2;cases hE2
end V
namespace V
theorem rbare_w (code:List KI) (hs:List Int) (a ha:Option Addr) (cap hcap:Nat) (r:Bool) (w:World) (hc:RepC w (In w) a code) (hh:RepZ w (In w) ha hs) (hl:hs.length=code.length) (hn:code.length≤1000000) (hge:∀ x ∈ hs,-1≤x) (hr:kTkL code hs code.length 0=some r) :
  Calls Tryz.prog 81 #[.slice a code.length cap,.slice ha code.length hcap] w fun e w'=>e = .returned (.bool (!r))∧Ext w w':=by
 have HCc:=zh (fun (j:Nat) (i:KI) (hi:code[j]? = some i)=>hc.at hi);have HHc:Hd (∀ (j:Nat) (x:Int),hs[j]? = some x→∃ b,ha=some ⟨b,0,none⟩∧w.cell? ⟨b,j,none⟩=some (.int .i64 x)):=fun j x hx=>by
  rcases hh with h0 | ⟨b,h1,_,h3⟩
  ·rw[h0] at hx;simp at hx
  ·exact⟨b,h1,h3 j x hx⟩
 have HGe:=zh hge;have H0:=zh hr;have HLn:=zh hl;clear hr hc hh hge hl;generalize hN:code.length=n at *
 go_enter Tryz.func81,Tryz.ntmps81
 go_wp2_with fail
 go_loopw [5] (fun t wr => ∃ (k:Nat),t = .int .i64 k∧k≤n∧Hd (kTkL code hs (n - k) k=some r)∧wr=w) (fun t _=>n - (intOf t).toNat)
 case atStart=>exact⟨0,rfl,by omega,H0,rfl⟩
 case round =>
  obtain⟨k,rfl,hk,hE,hW⟩:=hrel;obtain rfl:=hW.symm;by_cases hlt:k < n
  ·have hE2:=zu hE
   rw[kTkL_step code hs hlt] at hE2;cases hx:hs[k]? with
   | none=>rw[hx] at hE2;cases hE2
   | some x =>
   rw[hx] at hE2;simp only at hE2;obtain⟨hb,rfl,cx⟩:=zu HHc k x hx;have hx1:=zu HGe x (List.mem_of_getElem? hx);by_cases h0:x = -1
   ·rw[if_pos h0] at hE2
    have HE2:=zh hE2;have h9:x < 0:=by omega
    clear hE2 hx h0
    go_wp2_with fail
    go_roundw
    case rel=>exact⟨k+1,by go_num,by omega,HE2,by first | rfl | trivial⟩
    case measure=>simp[intOf];omega
   ·rw[if_neg h0] at hE2
    have h9:¬ x < 0:=by omega
    cases hcb:kCallT code k with
    | none=>rw[hcb] at hE2;cases hE2
    | some c =>
    rw[hcb] at hE2;simp only at hE2;unfold kCallT at hcb;cases hi:code[k]? with
    | none=>rw[hi] at hcb;cases hcb
    | some i =>
    rw[hi] at hcb;simp only at hcb;obtain⟨cb,co,rfl,_,c0,c1,_⟩:=zu HCc k i hi;obtain⟨op,A,B⟩:=i;simp only at hcb c0 c1;clear hx hi h0;by_cases o9:op=9
    ·subst o9
     rw[if_pos rfl] at hcb;cases k with
     | zero =>
      simp only at hcb;injection hcb with hcb;subst hcb;rw[if_neg (by decide)] at hE2;injection hE2 with hE2;have HR:Hd (false=r):=hE2;clear hE2;simp only[Nat.zero_mul,Nat.add_zero] at c0
      go_wp2_with fail
      go_ret;exact⟨by rw[← zu HR];rfl,Ext.refl _⟩
     | succ p =>
      simp only at hcb;cases hq:code[p]? with
      | none=>rw[hq] at hcb;cases hcb
      | some q =>
      rw[hq] at hcb;injection hcb with hcb;obtain⟨cb3,co3,e3,_,d0,_,_⟩:=zu HCc p q hq;injection e3 with e3;injection e3 with e31 e32;subst e31 e32;obtain⟨qo,qa,qb⟩:=q;simp only at hcb d0;clear hq;have hp1:((p+1:Nat):Int) - 1=(p:Int):=by omega
      have hp0:(((p+1:Nat):Int) == 0)=false:=by rw[beq_eq_false_iff_ne];omega
      by_cases q12:qo=12
      ·subst q12
       obtain rfl:true=c:=by simpa using hcb
       rw[if_pos rfl] at hE2;have HE2:=zh hE2;clear hE2 hcb
       go_wp2_with fail
       go_roundw
       case rel=>exact⟨p+1+1,by go_num,by omega,HE2,by first | rfl | trivial⟩
       case measure=>simp[intOf];omega
      ·have hqf:(qo != 12)=true:=by simpa using q12
       obtain rfl:false=c:=by rw[decide_eq_false q12] at hcb;exact hcb
       rw[if_neg (by decide)] at hE2;injection hE2 with hE2;have HR:Hd (false=r):=hE2;clear hE2 hcb q12
       go_wp2_with fail
       go_ret;exact⟨by rw[← zu HR];rfl,Ext.refl _⟩
    ·have o9f:(op == 9)=false:=by simpa using o9
     rw[if_neg o9] at hcb;by_cases o7:op=7∨op=8
     ·rw[if_pos o7] at hcb
      by_cases hA:A < 0
      ·rw[if_pos hA] at hcb;cases hcb
      rw[if_neg hA] at hcb;obtain⟨t,rfl⟩:∃ t:Nat,A=t:=⟨A.toNat,by omega⟩;rw[show ((t:Int)).toNat=t by omega] at hcb;cases hq:code[t]? with
      | none=>rw[hq] at hcb;cases hcb
      | some q =>
      rw[hq] at hcb;injection hcb with hcb;have htl:t < n:=by rw[← hN];exact(List.getElem?_eq_some_iff.1 hq).1
      obtain⟨cb3,co3,e3,_,d0,_,_⟩:=zu HCc t q hq;injection e3 with e3;injection e3 with e31 e32;subst e31 e32;obtain⟨qo,qa,qb⟩:=q;simp only at hcb d0;clear hq hA o9;by_cases q9:qo=9
      ·subst q9
       obtain rfl:false=c:=by simpa using hcb
       rw[if_neg (by decide)] at hE2;injection hE2 with hE2;have HR:Hd (false=r):=hE2;clear hE2 hcb;rcases o7 with rfl | rfl
       all_goals
        go_wp2_with fail
        go_ret;exact⟨by rw[← zu HR];rfl,Ext.refl _⟩
      ·have hqf:(qo == 9)=false:=by simpa using q9
       obtain rfl:true=c:=by first | (rw[decide_eq_true q9] at hcb;exact hcb) | simpa [q9] using hcb
       rw[if_pos rfl] at hE2;have HE2:=zh hE2;clear hE2 hcb q9;rcases o7 with rfl | rfl
       all_goals
        go_wp2_with fail
        go_roundw
        case rel=>exact⟨k+1,by go_num,by omega,HE2,by first | rfl | trivial⟩
        case measure=>simp[intOf];omega
     ·rw[if_neg o7] at hcb
      injection hcb with hcb;subst hcb;rw[if_pos rfl] at hE2;have HE2:=zh hE2;have o7f:(op == 7)=false:=by rw[beq_eq_false_iff_ne];omega
      have o8f:(op == 8)=false:=by rw[beq_eq_false_iff_ne];omega
      clear hE2 o7 o9
      go_wp2_with fail
      go_roundw
      case rel=>exact⟨k+1,by go_num,by omega,HE2,by first | rfl | trivial⟩
      case measure=>simp[intOf];omega
  ·obtain rfl:k=n:=by omega
   have hq:=zu hE;rw[Nat.sub_self,kTkL] at hq;injection hq with hq;have HR:Hd (true=r):=hq;clear hq
   go_wp2_with fail
   go_ret;exact⟨by rw[← zu HR];rfl,Ext.refl _⟩
end V
namespace V
structure RGw (W:World) where
 w:World
 h:Ext W w
theorem wp_region_rx {P:Program} {id:Nat} {Q:Exit→Act→World→Prop} {a:Act} {w W:World} {l:List Oper} (hm:P.follows .mixedOrders=true) (hB:Region.lexB .any l.toArray=true) (hw:Ext W w)
  (h:wpQuiet P l.toArray (fun w' => ∃ n:RGw W,w' = n.w) (fun a' => ∀ w',(∃ n:RGw W,w' = n.w)→Q .normal a' w') l a):(Code.region id l.toArray true).wp P Q a w :=
 wp_region_quiet (C:=fun w' => ∃ n:RGw W,w' = n.w) hm hB ⟨⟨_,Ext.drew hw⟩,rfl⟩ (by simpa using h)
theorem Calls.rx_of {P:Program} {f:FuncId} {args:Array Value} {W:World} (n:RGw W) (v:Value) (h:Calls P f args n.w fun e w'=>e = .returned v∧Ext n.w w') :
  Calls P f args n.w fun e w''=>e = .returned v∧∃ m:RGw W,w'' = m.w :=
 h.mono fun _ _ ⟨he,hx⟩=>⟨he,⟨_,n.h.trans hx⟩,rfl⟩
end V
namespace V
theorem rwithin_any (x n:Int) (w:World):Calls Tryz.prog 77 #[.int .i64 x,.int .i64 n] w fun e w'=>e = .returned (.bool (kPl x n))∧w' = w:=by
 unfold kPl;by_cases h:0≤x
 ·by_cases h2:x < n
  ·rw[decide_eq_true ⟨h,h2⟩]
   go_enter Tryz.func77,Tryz.ntmps77
   go_wp2_with fail
   go_ret;exact⟨rfl,rfl⟩
  ·rw[decide_eq_false (fun h9=>h2 h9.2)]
   go_enter Tryz.func77,Tryz.ntmps77
   go_wp2_with fail
   go_ret;exact⟨rfl,rfl⟩
 ·rw[decide_eq_false (fun h9=>h h9.1)]
  go_enter Tryz.func77,Tryz.ntmps77
  go_wp2_with fail
  go_ret;exact⟨rfl,rfl⟩
theorem rarity_any (o:Int) (w:World):Calls Tryz.prog 101 #[.int .i64 o] w fun e w'=>e = .returned (.int .i64 (kAr o))∧w' = w:=by
 unfold kAr;rcases (show o < 1∨(1≤o∧o≤14)∨(15≤o∧o≤20)∨20 < o by omega) with h | ⟨h,h2⟩ | ⟨h,h2⟩ | h
 ·rw[if_neg (by omega),if_neg (by omega)]
  have e1:¬ 1≤o:=by omega
  have e2:¬ 15≤o:=by omega
  clear h
  go_enter Tryz.func101,Tryz.ntmps101
  go_wp2_with fail
  go_ret;exact⟨rfl,rfl⟩
 ·rw[if_pos ⟨h,h2⟩]
  go_enter Tryz.func101,Tryz.ntmps101
  go_wp2_with fail
  go_ret;exact⟨rfl,rfl⟩
 ·rw[if_neg (by omega),if_pos ⟨h,h2⟩]
  have e1:1≤o:=by omega
  have e2:¬ o≤14:=by omega
  go_enter Tryz.func101,Tryz.ntmps101
  go_wp2_with fail
  go_ret;exact⟨rfl,rfl⟩
 ·rw[if_neg (by omega),if_neg (by omega)]
  have e1:1≤o:=by omega
  have e2:¬ o≤14:=by omega
  have e3:15≤o:=by omega
  have e4:¬ o≤20:=by omega
  clear h
  go_enter Tryz.func101,Tryz.ntmps101
  go_wp2_with fail
  go_ret;exact⟨rfl,rfl⟩
theorem ext3 (w:World) (o1 o2 o3:Obj):Ext w (((w.alloc o1).alloc o2).alloc o3):=(Ext.alloc _ _).trans ((Ext.alloc _ _).trans (Ext.alloc _ _))
theorem rformed_any (fns:List KF) (f:KF) (i:KI) (pa ca ka:Option Addr) (pc cc kc:Nat) (m:Int) (w:World) (hp:RepP w (In w) pa fns) (h0:fns.length≤1000000) (h1:f.cs.length≤1000000) (h2:f.code.length≤1000000) :
  Calls Tryz.prog 78 #[kpV pa fns.length pc m,kfV f ca cc ka kc,kiV i] w fun e w'=>e = .returned (.bool (kStand fns f i))∧Ext w w':=by
 have HP:=zh (fun (k n:Int) (W:World)=>rwithin_any k n W);have HA:=zh (fun (k:Int) (W:World)=>rarity_any k W);have HE:Hd (∀ (o1 o2 o3:Obj) (k:Nat),Ext w ((((w.alloc o1).alloc o2).alloc o3).drewN k)):=fun o1 o2 o3 k=>by
  have e:∀ (k:Nat) (W:World),Ext w W→Ext w (W.drewN k):=by
   intro k
   induction k with
   | zero=>intro W h;exact h
   | succ k ih=>intro W h;exact Ext.drew (ih W h)
  exact e k _ (ext3 _ _ _ _)
 have HE0:Hd (∀ (o1 o2 o3:Obj),Ext w (((w.alloc o1).alloc o2).alloc o3)):=fun o1 o2 o3=>ext3 _ _ _ _;obtain⟨FN,FP,FL,FC,FK⟩:=f;obtain⟨p,x,y⟩:=i;simp only at h1 h2;by_cases hp9:p=9
 ·subst hp9
  unfold kStand;rw[if_pos rfl];by_cases hx:0≤x∧x < (fns.length:Int)
  ·obtain⟨z,rfl⟩:∃ z:Nat,x=z:=⟨x.toNat,by omega⟩
   obtain⟨g,hg⟩:∃ g,fns[z]? = some g:=⟨_,List.getElem?_eq_getElem (by omega)⟩;obtain⟨b,o,ga,gc,gka,gkc,rfl,hf,c0,c1,c2,c3,c4,_,_⟩:=hp.at hg;have hk:kPl (z:Int) fns.length=true:=decide_eq_true hx;have HPt:Hd (∀ W,Calls Tryz.prog 77 #[.int .i64 (z:Int),.int .i64 (fns.length:Int)] W fun e w'=>e = .returned (.bool true)∧w' = W):=fun W=>by
    have h:=rwithin_any (z:Int) fns.length W;rw[hk] at h;exact h
   rw[hk,show ((z:Int)).toNat=z by omega,hg];have hz:z < fns.length:=by omega
   have q1:=fun o1 o2 o3=>(ext3 w o1 o2 o3).cell c1;clear hg hk hx hp c0 c2 c3 c4;generalize hFC:FC.length=CS at *;generalize hFK:FK.length=KS at *;generalize fns.length=N at *;simp only[Bool.true_and]
   go_enter Tryz.func78,Tryz.ntmps78
   go_wp2_with fail
   go_quiet ((go_at_call 77;exact Calls.quiet_of_same (zu HPt _)))
   go_wp2_with fail
   go_ret;exact⟨rfl,zu HE _ _ _ _⟩
  ·have hk:kPl x fns.length=false:=decide_eq_false hx
   have HPt:Hd (∀ W,Calls Tryz.prog 77 #[.int .i64 x,.int .i64 (fns.length:Int)] W fun e w'=>e = .returned (.bool false)∧w' = W):=fun W=>by
    have h:=rwithin_any x fns.length W;rw[hk] at h;exact h
   rw[hk];clear hk hx hp;generalize hFC:FC.length=CS at *;generalize hFK:FK.length=KS at *;generalize fns.length=N at *;simp only[Bool.false_and]
   go_enter Tryz.func78,Tryz.ntmps78
   go_wp2_with fail
   go_quiet ((go_at_call 77;exact Calls.quiet_of_same (zu HPt _)))
   go_wp2_with fail
   go_ret;exact⟨rfl,zu HE _ _ _ _⟩
 ·have hpf:(p == 9)=false:=by rw[beq_eq_false_iff_ne];exact hp9
  have hpn:(p != 9)=true:=by simp[hp9]
  unfold kStand;rw[if_neg hp9];clear hp;by_cases hy:y=0
  ·subst hy
   simp only[beq_self_eq_true,Bool.true_and];unfold kMay;simp only;generalize hFC:FC.length=CS at *;generalize hFK:FK.length=KS at *;generalize fns.length=N at *;rcases op_cases p with rfl | rfl | rfl | rfl | rfl | rfl | rfl | rfl | rfl | rfl | rfl | rfl | rfl | ⟨n1,n2,n3,n4,n5,n6,n7,n8,n9,n10,n11,n12,n13⟩
   case inr.inr.inr.inr.inr.inr.inr.inr.inl=>exact absurd rfl hp9
   case inr.inr.inr.inr.inr.inr.inr.inr.inr.inr.inr.inl =>
    have hE:(kPl (x - 1) 4095=false∧¬ 1≤x)∨(kPl (x - 1) 4095=true∧1≤x∧x≤4095)∨(kPl (x - 1) 4095=false∧1≤x∧¬ x≤4095):=by
     rcases (show ¬ 1≤x∨(1≤x∧x≤4095)∨(1≤x∧¬ x≤4095) by omega) with h | h | h
     ·exact Or.inl ⟨decide_eq_false (by omega),h⟩
     ·exact Or.inr (Or.inl ⟨decide_eq_true (by omega),h⟩)
     ·exact Or.inr (Or.inr ⟨decide_eq_false (by omega),h⟩)
    clear hpf hpn hp9;rcases hE with⟨e,h⟩ | ⟨e,h,h'⟩ | ⟨e,h,h'⟩
    all_goals
     have E:=zh e;clear e
     go_enter Tryz.func78,Tryz.ntmps78
     go_wp2_with fail
     go_ret;exact⟨ret_bool (by simp[zu E];try omega),zu HE0 _ _ _⟩
   all_goals
    go_enter Tryz.func78,Tryz.ntmps78
    go_wp2_with (first | (go_at_call 77;refine Calls.mono (zu HP _ _ _) ?_;rintro e w1 ⟨rfl,hw⟩;obtain rfl:=hw.symm) | (go_at_call 101;refine Calls.mono (zu HA _ _) ?_;rintro e w1 ⟨rfl,hw⟩;obtain rfl:=hw.symm))
    go_ret;exact⟨ret_bool (by simp[*]),zu HE0 _ _ _⟩
  ·have hyf:(y == 0)=false:=by rw[beq_eq_false_iff_ne];exact hy
   have hyn:(y != 0)=true:=by simp[hy]
   rw[hyf,Bool.false_and];generalize hFC:FC.length=CS at *;generalize hFK:FK.length=KS at *;generalize fns.length=N at *;clear hy hp9
   go_enter Tryz.func78,Tryz.ntmps78
   go_wp2_with fail
   go_ret;exact⟨rfl,zu HE0 _ _ _⟩
end V
namespace V
section
variable {P:Program} {w:World}
theorem run_append_where (base:Nat) (t ty e:TypeId) (i:TypeInfo) (z:Value) (size bytes:Nat) (ht:P.underlying t=some (.slice e)) (hi:P.info? e=some i) (hz:i.zero=some z)
  (hsize:i.size=size) (hby:i.bytes=bytes) (hzs:z.cells.size=size) (hsz:0 < size)
  (ao:Option Addr) (n cap:Nat) (xs:List Value) (hown:w.ownsRow base e size (.slice ao n cap) n xs)
  (a:Addr) (m c:Nat) (news:List Value) (hm:0 < m) (hl:news.length=m * size) (hnews:∀ j u,news[j]? = some u→w.cell? (a.add j)=some u) (h1:∀ u ∈ news,u.oneCell' = true)
  (h63:n+m≤maxLen) (hbytes:(n+m) * bytes≤140737488355328) (hbase:base≤w.heap.size) :
  ∃ g' cap' w',(Builtin.append_ #[t,t] ty #[.slice ao n cap,.slice (some a) m c]).run P w = .ok (.slice (some ⟨g',0,none⟩) (n+m) cap') w'∧w'.ownsRow base e size (.slice (some ⟨g',0,none⟩) (n+m) cap') (n+m) (xs++news) ∧
   w.grownBy w' (Value.slice ao n cap).ownBlock∧((Value.slice ao n cap).ownBlock=some g'∨w.heap.size≤g'):=by
 obtain⟨v',w',hrun,ho,hg,_⟩:=run_append_own (P:=P) w base t ty e i z size bytes ht hi hz hsize hby hzs hsz (.slice ao n cap) n xs hown a m c news hl hnews h1 h63 hbytes hbase;have hv:∃ g' cap',v' = .slice (some ⟨g',0,none⟩) (n+m) cap':=by
  rcases ho.2 with⟨_,h0⟩ | ⟨g',cap',cur,hv,_⟩
  ·omega
  ·exact⟨g',cap',hv⟩
 obtain⟨g',cap',rfl⟩:=hv;refine⟨g',cap',w',hrun,ho,hg,?_⟩;rcases hown.2 with⟨hn,h0⟩ | ⟨g,cap2,cur,hn,hb,hgg,hnc,hcm,hcs,htake⟩
 ·injection hn with e1 e2 e3
  subst e1 e2 e3;obtain⟨v2,w2,hrun2,ho2,_⟩:=run_append_own (P:=P) w w.heap.size t ty e i z size bytes ht hi hz hsize hby hzs hsz (.slice none 0 0) 0 [] (World.ownsRow_nil w _ e size) a m c news hl hnews h1 h63 hbytes (Nat.le_refl _);rw[hrun] at hrun2;injection hrun2 with e1 e2;subst e1;have:=ho2.lt g' rfl;exact Or.inr this.1
 ·injection hn with e1 e2 e3
  subst e1 e3;by_cases hr:n+m≤cap
  ·subst hsize
   have hrun2:=run_append_room (P:=P) w t ty e i ht hi g n cap cur hgg a m c news hl hnews h1 hr (by rw[hl,← Nat.add_mul,hcs];exact Nat.mul_le_mul_right _ hr);rw[hrun] at hrun2;injection hrun2 with e1 e2;injection e1 with e1 _ _;injection e1 with e1;injection e1 with e1;subst e1;exact Or.inl rfl
  ·obtain⟨v2,w2,hrun2,ho2,_⟩:=run_append_arg_grows (P:=P) w t ty e i z size bytes ht hi hz hsize hby hzs hsz ⟨g,0,none⟩ n cap xs hown.1 (hown.cells rfl) a m c news hl hnews (by omega) h63 hbytes
   rw[hrun] at hrun2;injection hrun2 with e1 e2;subst e1;have:=ho2.lt g' rfl;exact Or.inr this.1
theorem step_append_where {ops:Array Oper} {o:Oper} {a:Act} {K:Act→World→Prop} {Q:Exit→Act→World→Prop} {E:Prop}
  (hg:o.guard=none) (s x:Operand) (t:TypeId) (hop:o.op=Op.call { callee:=Callee.builtin Builtin.append,args:=#[s,x],argTypes:=#[t,t] })
  (base:Nat) (e:TypeId) (i:TypeInfo) (z:Value) (size bytes:Nat) (ht:P.underlying t=some (.slice e)) (hi:P.info? e=some i) (hz:i.zero=some z)
  (hsize:i.size=size) (hby:i.bytes=bytes) (hzs:z.cells.size=size) (hsz:0 < size)
  (ao:Option Addr) (n cap:Nat) (xs:List Value) (hs:a.eval s = .slice ao n cap) (hown:w.ownsRow base e size (.slice ao n cap) n xs)
  (ad:Addr) (m c:Nat) (news:List Value) (hx:a.eval x = .slice (some ad) m c) (hm:0 < m) (hl:news.length=m * size) (hnews:∀ j u,news[j]? = some u→w.cell? (ad.add j)=some u) (h1:∀ u ∈ news,u.oneCell' = true)
  (h63:n+m≤maxLen) (hbytes:(n+m) * bytes≤140737488355328) (hbase:base≤w.heap.size)
  (hK:∀ g' cap' w',w'.ownsRow base e size (.slice (some ⟨g',0,none⟩) (n+m) cap') (n+m) (xs++news)→w.grownBy w' (Value.slice ao n cap).ownBlock→((Value.slice ao n cap).ownBlock=some g'∨w.heap.size≤g')→K (a.put o.dst (.slice (some ⟨g',0,none⟩) (n+m) cap')) w') :
  if Region.wanted o (yielded ops a.tmps)=true then Oper.wp P o a w K Q else E:=by
 have hw:Region.wanted o (yielded ops a.tmps)=true:=by simp[Region.wanted,hg]
 rw[if_pos hw];obtain⟨g',cap',w',hrun,r1,r2,r3⟩:=run_append_where (P:=P) (w:=w) base t o.type e i z size bytes ht hi hz hsize hby hzs hsz ao n cap xs hown ad m c news hm hl hnews h1 h63 hbytes hbase;unfold Oper.wp;simp[execOp,hop,resolve,invoke,builtin,hs,hx,hrun,Result.andThen];exact hK g' cap' w' r1 r2 r3
theorem wpList_append_where {ops:Array Oper} {rest:List Oper} {o:Oper} {a:Act} {Q:Exit→Act→World→Prop} (hgd:o.guard=none) (s x:Operand) (t:TypeId)
  (hop:o.op = .call { callee:=.builtin .append,args:=#[s,x],argTypes:=#[t,t] })
  (base:Nat) (e:TypeId) (i:TypeInfo) (z:Value) (size bytes:Nat) (ht:P.underlying t=some (.slice e)) (hi:P.info? e=some i) (hz:i.zero=some z)
  (hsize:i.size=size) (hby:i.bytes=bytes) (hzs:z.cells.size=size) (hsz:0 < size)
  (ao:Option Addr) (n cap:Nat) (xs:List Value) (hs:a.eval s = .slice ao n cap) (hown:w.ownsRow base e size (.slice ao n cap) n xs)
  (ad:Addr) (m c:Nat) (news:List Value) (hx:a.eval x = .slice (some ad) m c) (hm:0 < m) (hl:news.length=m * size) (hnews:∀ j u,news[j]? = some u→w.cell? (ad.add j)=some u) (h1:∀ u ∈ news,u.oneCell' = true)
  (h63:n+m≤maxLen) (hbytes:(n+m) * bytes≤140737488355328) (hbase:base≤w.heap.size)
  (h:∀ g' cap' w',w'.ownsRow base e size (.slice (some ⟨g',0,none⟩) (n+m) cap') (n+m) (xs++news)→w.grownBy w' (Value.slice ao n cap).ownBlock→((Value.slice ao n cap).ownBlock=some g'∨w.heap.size≤g')→wpList P ops Q rest (a.put o.dst (.slice (some ⟨g',0,none⟩) (n+m) cap')) w'):wpList P ops Q (o :: rest) a w:=by
 refine wpList_plain hgd fun K hK => ?_;obtain⟨g',cap',w',hrun,r1,r2,r3⟩:=run_append_where (P:=P) (w:=w) base t o.type e i z size bytes ht hi hz hsize hby hzs hsz ao n cap xs hown ad m c news hm hl hnews h1 h63 hbytes hbase;unfold Oper.wp;simp[execOp,hop,resolve,invoke,builtin,hs,hx,hrun,Result.andThen];exact hK _ _ (h g' cap' w' r1 r2 r3)
theorem step_call_one {ops:Array Oper} {o:Oper} {a:Act} {K:Act→World→Prop} {Q:Exit→Act→World→Prop} {E:Prop}
  (hg:o.guard=none) (f:FuncId) (x:Operand) (t:TypeId) (hop:o.op=Op.call { callee:=Callee.value (.func f),args:=#[x],argTypes:=#[t] })
  (v:Value) (hx:a.eval x=v) (hf:(callFunc f #[v]).run P w = .ok (.enter f #[v]) w) (hK:Calls P f #[v] w fun e w' => ∃ u,e = .returned u∧K (a.put o.dst u) w') :
  if Region.wanted o (yielded ops a.tmps)=true then Oper.wp P o a w K Q else E:=by
 have hw:Region.wanted o (yielded ops a.tmps)=true:=by simp[Region.wanted,hg]
 rw[if_pos hw];have he:a.eval (.func f) = .func (.func f) #[] #[]:=rfl;unfold Oper.wp;have hrun:(execOp a.eval o).run P w = .ok (.enter f #[v]) w:=by
  simp[execOp,hop,resolve,invoke,hx,he,Result.andThen,Deferred.ofValue,hf]
 rw[hrun,Oper.upon_enter];refine hK.mono ?_;rintro e w' ⟨u,rfl,h⟩;exact h
end
/-! ### Rows of five cells a value -/
/-- The cells xs hold the values ps,one behind the other. -/
def Row5 (w:World) (F:Nat→Prop):List PV→List Value→Prop
 | [],xs=>xs = []
 | p :: ps,xs => ∃ a cap rest,xs = [.int .i64 p.k,.int .i64 p.n,.complex .f64 p.re p.im,.string p.s,.slice a p.l.length cap]++rest∧Bd p.k p.n p.re p.im p.s p.l.length cap∧RepL w F p.l a∧Row5 w F ps rest
theorem Row5.to {w w':World} {F F':Nat→Prop} (h:∀ b,F b→F' b∧w'.heap[b]? = w.heap[b]?):∀ {ps:List PV} {xs:List Value},Row5 w F ps xs→Row5 w' F' ps xs:=by
 intro ps
 induction ps with
 | nil=>intro xs hx;exact hx
 | cons p ps ih =>
  intro xs hx;obtain⟨a,cap,rest,e,hb,hl,hr⟩:=hx;exact⟨a,cap,rest,e,hb,RepL.to h _ _ hl,ih hr⟩
theorem Row5.snoc {w:World} {F:Nat→Prop} {p:PV} {a:Option Addr} {cap:Nat} (hb:Bd p.k p.n p.re p.im p.s p.l.length cap) (hl:RepL w F p.l a) :
  ∀ {ps:List PV} {xs:List Value},Row5 w F ps xs→Row5 w F (ps++[p]) (xs++[.int .i64 p.k,.int .i64 p.n,.complex .f64 p.re p.im,.string p.s,.slice a p.l.length cap]):=by
 intro ps
 induction ps with
 | nil =>
  intro xs hx;have:xs = []:=hx;subst this;exact⟨a,cap,[],by simp,hb,hl,rfl⟩
 | cons q ps ih =>
  intro xs hx;obtain⟨a',cap',rest,e,hb',hl',hr⟩:=hx;exact⟨a',cap',rest++_,by rw[e];simp,hb',hl',ih hr⟩
theorem Row5.repL {w:World} {F:Nat→Prop} {g:Nat} (hF:F g):∀ {ps:List PV} {xs:List Value} {off:Nat},Row5 w F ps xs→(∀ j u,xs[j]? = some u→w.cell? ⟨g,off+j,none⟩=some u)→RepL w F ps (some ⟨g,off,none⟩):=by
 intro ps
 induction ps with
 | nil=>intro xs off _ _;simp[RepL]
 | cons p ps ih =>
  intro xs off hx hc;obtain⟨a,cap,rest,e,hb,hl,hr⟩:=hx;subst e;refine RepL.cons ⟨hF,by simpa using hc 0 _ rfl,hc 1 _ rfl,hc 2 _ rfl,hc 3 _ rfl,hc 4 _ rfl,hb,hl⟩ (ih hr fun j u hu => ?_);have:=hc (5+j) u (by rw[List.getElem?_append_right (by simp)];simpa using hu);rw[Nat.add_assoc];exact this
theorem cells_own {w:World} {base:Nat} {e:TypeId} {size n cap g:Nat} {xs:List Value} (h:w.ownsRow base e size (.slice (some ⟨g,0,none⟩) n cap) n xs):∀ j u,xs[j]? = some u→w.cell? ⟨g,0+j,none⟩=some u:=by
 intro j u hu;have:=h.cells (g:=g) rfl j u hu;have hadd:(⟨g,0,none⟩:Addr).add j=⟨g,0+j,none⟩:=by unfold Addr.add;split <;> simp_all
 rw[hadd] at this;exact this
end V
end Go.Proofs.YtjnpehohialmbaaGreat
