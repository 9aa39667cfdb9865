/- Whether there is a cycle without a tick. -/
import Derived.Deep.QuietTactic
import Derived.BigQuiet
import Derived.Test.YtjnpehohialmbaaGreatZs30
set_option linter.unusedSimpArgs false
set_option linter.unusedVariables false
set_option maxRecDepth 10000
set_option maxHeartbeats 2000000
namespace Go.Proofs.YtjnpehohialmbaaGreat
open Go.RowKit
namespace V
theorem kL1_step (code:List KI) (hs:List Int) {n k:Nat} (hk:k < n) (left:Int) (into:List Int):kL1 code hs (n - k) k left into=match kCnt code hs k with
  | none=>none
  | some false=>kL1 code hs (n - (k+1)) (k+1) left into
  | some true=>match kAdd (kNext code k) into with
   | none=>none
   | some into'=>kL1 code hs (n - (k+1)) (k+1) (left+1) into':=by
 rw[show n - k=(n - (k+1))+1 by omega,kL1];cases kCnt code hs k with
 | none=>rfl
 | some b=>cases b <;> rfl
theorem kL2_step (code:List KI) (hs into:List Int) {n k:Nat} (hk:k < n) (free:List Nat):kL2 code hs into (n - k) k free=match kCnt code hs k with
  | none=>none
  | some false=>kL2 code hs into (n - (k+1)) (k+1) free
  | some true=>match into[k]? with
   | none=>none
   | some x=>kL2 code hs into (n - (k+1)) (k+1) (if x=0 then k :: free else free):=by
 rw[show n - k=(n - (k+1))+1 by omega,kL2];cases kCnt code hs k with
 | none=>rfl
 | some b=>cases b <;> rfl
theorem cyc_w (code:List KI) (hs:List Int) (a ha:Option Addr) (cap hcap K:Nat) (r:Bool) (w:World) (hc:RepC w (In w) a code) (hh:RepZ w (In w) ha hs) (hl:hs.length=code.length) (hn:code.length≤1000000) (hK:K≤1000000) (hr:kCyc code hs K=some r) :
  Calls Tryz.prog 88 #[.slice a code.length cap,.slice ha code.length hcap] w fun e w'=>e = .returned (.bool r)∧Ext w w':=by
 have hmk:=fun w=>make_ints code.length hn w;have hmf:∀ (fn:Fn) (first cap:Array Value) (w:World),(Instr.makeFunc fn first cap).run Tryz.prog w = .ok (.func fn first cap) w:=fun _ _ _ _=>rfl;have HN:=zh (fun (W:World) (e:Ext w W) (j:Nat)=>next_any code j a cap W (hc.ext e) hn);have HCt:=zh (fun (W:World) (e:Ext w W) (j:Nat) (r:Bool) (hr:kCnt code hs j=some r)=>cnt_any code hs j r a ha cap hcap w.heap.size (w.heap.size+1) W (hc.ext e) (hh.ext e) hl hn hr);unfold kCyc at hr;cases h1:kL1 code hs code.length 0 0 (List.replicate code.length 0) with
 | none=>rw[h1] at hr;cases hr
 | some q =>
 rw[h1] at hr;simp only at hr;obtain⟨left1,into1⟩:=q;simp only at hr;cases h2:kL2 code hs into1 code.length 0 [] with
 | none=>rw[h2] at hr;cases hr
 | some free2 =>
 rw[h2] at hr;simp only at hr;cases h4:kL4 code hs K left1 into1 free2 with
 | none=>rw[h4] at hr;cases hr
 | some lf =>
 rw[h4] at hr;injection hr with hr;have H1:=zh h1;have H2:=zh h2;have H4:=zh h4;have HR:=zh hr;clear h1 h2 h4 hr hc hh hl;have hz0:(zs (List.replicate code.length 0)).toArray=Array.replicate code.length (.int .i64 0):=by simp[zs]
 generalize hN:code.length=n at *;have HI0:Hd (CyS w (((w.alloc (.cells #[.slice a n cap] 80)).alloc (.cells #[.slice ha n hcap] 77)).alloc (.cells (zs (List.replicate n 0)).toArray 3)).drew a cap ha hcap n (List.replicate n 0) [] none 0):=by
  have e2:=Ext.alloc (w.alloc (.cells #[.slice a n cap] 80)) (.cells #[.slice ha n hcap] 77);have e3:=Ext.alloc ((w.alloc (.cells #[.slice a n cap] 80)).alloc (.cells #[.slice ha n hcap] 77)) (.cells (zs (List.replicate n 0)).toArray 3);refine⟨Ext.drew ((Ext.alloc _ _).trans (e2.trans e3)),?_,?_,?_,by simp,World.ownsRow_nil _ _ _ _⟩
  ·exact(e3.block _ (by simp only[heap_alloc_size];omega)).trans ((e2.block _ (by simp only[heap_alloc_size];omega)).trans (Go.heap_alloc_new w _))
  ·refine(e3.block _ (by simp only[heap_alloc_size];omega)).trans ?_
   have:=Go.heap_alloc_new (w.alloc (.cells #[.slice a n cap] 80)) (.cells #[.slice ha n hcap] 77);rw[heap_alloc_size] at this;exact this
  ·have:=Go.heap_alloc_new ((w.alloc (.cells #[.slice a n cap] 80)).alloc (.cells #[.slice ha n hcap] 77)) (.cells (zs (List.replicate n 0)).toArray 3)
   rw[heap_alloc_size,heap_alloc_size] at this;exact this
 rw[hz0] at HI0;obtain⟨i0,hi,hz1,hz2,hz3⟩:=k_info;have HI:=zh hi;have Z0:=zh hz1;have Z1:=zh hz2;have Z2:=zh hz3;clear hi hz1 hz2 hz3 hz0
 go_enter Tryz.func88,Tryz.ntmps88
 go_wp2_with fail
 refine k_nrm ?_
 first | skip;go_region | fail
 all_goals
  simp only[KNrm]
  go_wp2_with fail
  go_loopw [5,22] (fun t5 t22 wr => ∃ (k:Nat) (left:Int) (into:List Int),t22 = .int .i64 k∧t5 = .int .i64 left∧k≤n∧0≤left∧left≤k∧Hd (kL1 code hs (n - k) k left into=some (left1,into1))∧Hd (CyS w wr a cap ha hcap n into [] none 0)) (fun _ t _=>n - (intOf t).toNat)
  case atStart=>exact⟨0,0,_,rfl,rfl,by omega,by omega,by omega,H1,HI0⟩
  case round =>
   clear HI0 H1;obtain⟨k,left,into,rfl,rfl,hk,hl0,hl1,hE,hI⟩:=hrel;have cX:wr.cell? ⟨w.heap.size,0,none⟩=some (.slice a n cap):=k_rowC (zu hI).rX 0 rfl;have cY:wr.cell? ⟨w.heap.size+1,0,none⟩=some (.slice ha n hcap):=k_rowC (zu hI).rY 0 rfl;by_cases hlt:k < n
   ·have hE2:=zu hE
    rw[kL1_step code hs hlt] at hE2;cases hcb:kCnt code hs k with
    | none=>rw[hcb] at hE2;cases hE2
    | some cb =>
    have HB:=zh hcb;cases cb with
    | false =>
     rw[hcb] at hE2;have HE2:=zh hE2;clear hE2 hcb
     go_wp2_with (go_at_call 107;refine Calls.mono (zu HCt _ (zu hI).ext k false (zu HB) cX cY) ?_;rintro e w4 ⟨rfl,hw⟩;obtain rfl:=hw.symm)
     go_roundw
     case rel=>exact⟨k+1,left,into,by go_num,rfl,by omega,by omega,by omega,HE2,hI⟩
     case measure=>simp[intOf];omega
    | true =>
     rw[hcb] at hE2;simp only at hE2;cases hA:kAdd (kNext code k) into with
     | none=>rw[hA] at hE2;cases hE2
     | some into' =>
     rw[hA] at hE2;have HE2:=zh hE2;have HA:=zh hA;clear hE2 hcb hA
     go_wp2_with (first
      | (go_at_call 107;refine Calls.mono (zu HCt _ (zu hI).ext k true (zu HB) cX cY) ?_;rintro e w4 ⟨rfl,hw⟩;obtain rfl:=hw.symm)
      | (go_at_call 105;refine Calls.mono (zu HN _ (zu hI).ext k) ?_;rintro e w3 ⟨nb,nc,rfl,r1,r2,r3⟩;have R2:=zh (NxR.new (zu hI).fresh.1 (zu hI).fresh.2 r2);have I3:=zh ((zu hI).on r3);clear r1 r2 r3))
     have hNL:=kNext_len code (k:Int);generalize hNX:kNext code (k:Int)=NX at *
     go_loopw [34] (fun t wr => ∃ (m:Nat) (it:List Int),t = .int .i64 m∧m≤NX.length∧Hd (kAdd (NX.drop m) it=some into')∧Hd (CyS w wr a cap ha hcap n it [] none 0)∧Hd (NxR w wr none nb NX)) (fun t _=>NX.length - (intOf t).toNat)
     case atStart=>exact⟨0,into,rfl,by omega,HA,I3,R2⟩
     case round =>
      clear I3 R2 HA hI hE cX cY;obtain⟨m,it,rfl,hm,hA,hI,hR⟩:=hrel;by_cases hlm:m < NX.length
      ·have hA2:=zu hA
       obtain⟨to,hto⟩:∃ to,NX[m]? = some to:=⟨_,List.getElem?_eq_getElem hlm⟩;have hd:NX.drop m=to :: NX.drop (m+1):=by
        obtain⟨h1,h2⟩:=List.getElem?_eq_some_iff.1 hto;rw[List.drop_eq_getElem_cons h1,h2]
       rw[hd,kAdd] at hA2;by_cases ht0:to < 0
       ·rw[if_pos ht0] at hA2;cases hA2
       rw[if_neg ht0] at hA2;obtain⟨t,rfl⟩:∃ t:Nat,to=t:=⟨to.toNat,by omega⟩;rw[show ((t:Int)).toNat=t by omega] at hA2;cases hx:it[t]? with
       | none=>rw[hx] at hA2;cases hA2
       | some x =>
       rw[hx] at hA2;simp only at hA2;by_cases hxb:-1000000≤x∧x≤1000000
       ·rw[if_pos hxb] at hA2
        have HA2:=zh hA2;obtain⟨nbb,rfl,hcell⟩:=(zu hR).at hto;have cI:wr.cell? ⟨w.heap.size+1+1,t,none⟩=some (.int .i64 x):=k_rowC (zu hI).rI t (rH_at hx);have fI:=k_rowF (zu hI).rI t;have htl:t < n:=by rw[← (zu hI).len];exact(List.getElem?_eq_some_iff.1 hx).1
        clear hA2 hd hto hx ht0
        go_wp2_with fail
        go_roundw
        case rel=>exact⟨m+1,_,by go_num,by omega,HA2,(zu hI).setI t (x+1),(zu hR).setI t _⟩
        case measure=>simp[intOf];omega
       ·rw[if_neg hxb] at hA2;cases hA2
      ·obtain rfl:m=NX.length:=by omega
       have hit:Hd (it=into'):=by
        have:=zu hA;rw[List.drop_length,kAdd] at this;injection this
       go_wp2_with fail
       go_roundw
       case rel=>exact⟨k+1,left+1,it,by go_num,by go_num,by omega,by omega,by omega,by rw[zu hit];exact HE2,hI⟩
       case measure=>simp[intOf];omega
   ·obtain rfl:k=n:=by omega
    have hq:=zu hE;rw[Nat.sub_self,kL1] at hq;injection hq with hq;injection hq with hq1 hq2;subst hq1 hq2;clear hE hlt hk
    go_wp2_with fail
    go_loopw [11,48] (fun t11 t48 wr => ∃ (m:Nat) (free:List Nat) (fa:Option Addr) (fc:Nat),t48 = .int .i64 m∧t11 = .slice fa free.length fc∧m≤k∧free.length≤m∧Hd (kL2 code hs into (k - m) m free=some free2)∧Hd (CyS w wr a cap ha hcap k into free fa fc)) (fun _ t _=>k - (intOf t).toNat)
    case atStart=>exact⟨0,[],none,0,rfl,rfl,by omega,by simp,H2,hI⟩
    case round =>
     clear hI cX cY H2;obtain⟨m,free,fa,fc,rfl,rfl,hm,hfl,hE,hI⟩:=hrel;have cX:wr.cell? ⟨w.heap.size,0,none⟩=some (.slice a k cap):=k_rowC (zu hI).rX 0 rfl;have cY:wr.cell? ⟨w.heap.size+1,0,none⟩=some (.slice ha k hcap):=k_rowC (zu hI).rY 0 rfl;by_cases hlt:m < k
     ·have hE2:=zu hE
      rw[kL2_step code hs into hlt] at hE2;cases hcb:kCnt code hs m with
      | none=>rw[hcb] at hE2;cases hE2
      | some cb =>
      have HB:=zh hcb;cases cb with
      | false =>
       rw[hcb] at hE2;have HE2:=zh hE2;clear hE2 hcb
       go_wp2_with (go_at_call 107;refine Calls.mono (zu HCt _ (zu hI).ext m false (zu HB) cX cY) ?_;rintro e w4 ⟨rfl,hw⟩;obtain rfl:=hw.symm)
       go_roundw
       case rel=>exact⟨m+1,free,fa,fc,by go_num,rfl,by omega,by omega,HE2,hI⟩
       case measure=>simp[intOf];omega
      | true =>
       rw[hcb] at hE2;simp only at hE2;cases hx:into[m]? with
       | none=>rw[hx] at hE2;cases hE2
       | some x =>
       rw[hx] at hE2;simp only at hE2;have cI:wr.cell? ⟨w.heap.size+1+1,m,none⟩=some (.int .i64 x):=k_rowC (zu hI).rI m (rH_at hx);by_cases hx0:x=0
       ·rw[if_pos hx0] at hE2
        have HE2:=zh hE2;subst hx0;have HO:Hd (∀ ob,(wr.alloc ob).ownsRow (w.heap.size+3) 3 1 (.slice fa free.length fc) free.length (ns free.reverse)):=fun ob=>((zu hI).on (Ext.alloc wr ob)).own;have HL:Hd (∀ ob,w.heap.size+3≤(wr.alloc ob).heap.size):=fun ob=>Nat.le_trans (zu hI).fresh.1 (Ext.alloc wr ob).size;have HP:=zh (fun (w2:World) (ob:Obj) (g' cap':Nat)=>(zu hI).push (w2:=w2) (ob:=ob) (g':=g') (cap':=cap') (j:=m));clear hE2 hcb hx;generalize ns free.reverse=XS at HO HP
        go_wp2_with (first
         | (go_at_call 107;refine Calls.mono (zu HCt _ (zu hI).ext m true (zu HB) cX cY) ?_;rintro e w4 ⟨rfl,hw⟩;obtain rfl:=hw.symm)
         | (at_builtin;refine kapp_list rfl (.tmp 61) (.tmp 63) 77 rfl (w.heap.size+3) 3 i0 (.int .i64 0) 1 8 Tryz.underlying77 (zu HI) (zu Z0) (zu Z1) (zu Z2) rfl (by decide) fa free.length fc _ rfl (zu HO _) ⟨wr.heap.size,0,none⟩ 1 1 [.int .i64 (m:Int)] rfl (by decide) rfl (k_new _ _ rfl _ _) (k_one_int _) ?c1 ?c2 (zu HL _) ?_))
        case c1=>unfold maxLen;omega
        case c2=>omega
        intro g' cap' w3 ho hg hw;have HW:=zh (zu HP w3 _ g' cap' hg ho);clear ho hg hw
        go_wp2_with fail
        go_roundw
        case rel=>exact⟨m+1,m :: free,_,cap',by go_num,rfl,by omega,by simp;omega,HE2,HW⟩
        case measure=>simp[intOf];omega
       ·rw[if_neg hx0] at hE2
        have HE2:=zh hE2;have hxf:(x == 0)=false:=by rw[beq_eq_false_iff_ne];exact hx0
        clear hE2 hcb hx hx0
        go_wp2_with (go_at_call 107;refine Calls.mono (zu HCt _ (zu hI).ext m true (zu HB) cX cY) ?_;rintro e w4 ⟨rfl,hw⟩;obtain rfl:=hw.symm)
        go_roundw
        case rel=>exact⟨m+1,free,fa,fc,by go_num,rfl,by omega,by omega,HE2,hI⟩
        case measure=>simp[intOf];omega
     ·obtain rfl:m=k:=by omega
      have hq:=zu hE;rw[Nat.sub_self,kL2] at hq;injection hq with hq;subst hq;clear hE hlt
      go_wp2_with fail
      go_loopg [5,11] K (fun gk t5 t11 wr => ∃ (lf':Int) (it:List Int) (fr:List Nat) (fa:Option Addr) (fc:Nat),t5 = .int .i64 lf'∧t11 = .slice fa fr.length fc∧Hd (kL4 code hs gk lf' it fr=some lf)∧Hd (CyS w wr a cap ha hcap m it fr fa fc)∧fr.length+2 * gk≤m+2 * K)
      case atStart=>exact⟨left,into,free,fa,fc,rfl,rfl,H4,hI,by omega⟩
      case round =>
       clear hI cX cY H4;obtain⟨lf',it,fr,fa,fc,rfl,rfl,hE,hI,hfl⟩:=hrel;have cX:wr.cell? ⟨w.heap.size,0,none⟩=some (.slice a m cap):=k_rowC (zu hI).rX 0 rfl;have cY:wr.cell? ⟨w.heap.size+1,0,none⟩=some (.slice ha m hcap):=k_rowC (zu hI).rY 0 rfl;cases gk with
       | zero=>have h0:=zu hE;rw[kL4] at h0;cases h0
       | succ gk =>
       have hE2:=zu hE;cases fr with
       | nil =>
        rw[kL4] at hE2;injection hE2 with hE2;have HL:Hd (lf' = lf):=hE2;clear hE2
        go_wp2_with fail
        go_ret;refine⟨ret_bool ?_,(zu hI).ext⟩;rw[← zu HR,← zu HL]
       | cons j rr =>
        rw[kL4] at hE2;by_cases hlb:-1000000≤lf'∧lf'≤1000000
        ·rw[if_pos hlb] at hE2
         cases hS:kSub code hs (kNext code j) it rr with
         | none=>rw[hS] at hE2;cases hE2
         | some q =>
         rw[hS] at hE2;have HE2:=zh hE2;have HS:=zh hS;obtain⟨g,rfl,hgc,hct⟩:=(zu hI).top;have HI1:=zh (zu hI).pop;have hrl:rr.length+1+2 * (gk+1)≤m+2 * K:=by simpa using hfl
         clear hE2 hS hfl hI;simp only[List.length_cons]
         go_wp2_with (go_at_call 105;refine Calls.mono (zu HN _ (zu HI1).ext j) ?_;rintro e w3 ⟨nb,nc,rfl,r1,r2,r3⟩;have R2:=zh (NxR.new (zu HI1).fresh.1 (zu HI1).fresh.2 r2);have I3:=zh ((zu HI1).on r3);clear r1 r2 r3)
         have hNL:=kNext_len code (j:Int);generalize hNX:kNext code (j:Int)=NX at *
         go_loopw [11,86] (fun t11 t wr => ∃ (p:Nat) (it':List Int) (fr:List Nat) (fa:Option Addr) (fc:Nat),t = .int .i64 p∧t11 = .slice fa fr.length fc∧p≤NX.length∧fr.length≤rr.length+p∧Hd (kSub code hs (NX.drop p) it' fr=some q)∧Hd (CyS w wr a cap ha hcap m it' fr fa fc)∧Hd (NxR w wr fa nb NX)) (fun _ t _=>NX.length - (intOf t).toNat)
         case atStart=>exact⟨0,it,rr,_,fc,rfl,rfl,by omega,by omega,HS,I3,R2⟩
         case round =>
          clear I3 R2 HS HI1 hE cX cY hct;obtain⟨p,it',fr,fa,fc,rfl,rfl,hp,hfr,hS,hI,hR⟩:=hrel;have cX:wr.cell? ⟨w.heap.size,0,none⟩=some (.slice a m cap):=k_rowC (zu hI).rX 0 rfl;have cY:wr.cell? ⟨w.heap.size+1,0,none⟩=some (.slice ha m hcap):=k_rowC (zu hI).rY 0 rfl;by_cases hlp:p < NX.length
          ·have hA2:=zu hS
           obtain⟨to,hto⟩:∃ to,NX[p]? = some to:=⟨_,List.getElem?_eq_getElem hlp⟩;have hd:NX.drop p=to :: NX.drop (p+1):=by
            obtain⟨h1,h2⟩:=List.getElem?_eq_some_iff.1 hto;rw[List.drop_eq_getElem_cons h1,h2]
           rw[hd,kSub] at hA2;by_cases ht0:to < 0
           ·rw[if_pos ht0] at hA2;cases hA2
           rw[if_neg ht0] at hA2;obtain⟨t,rfl⟩:∃ t:Nat,to=t:=⟨to.toNat,by omega⟩;rw[show ((t:Int)).toNat=t by omega] at hA2;cases hx:it'[t]? with
           | none=>rw[hx] at hA2;cases hA2
           | some x =>
           rw[hx] at hA2;simp only at hA2;by_cases hxb:-1000000≤x∧x≤1000000
           ·rw[if_pos hxb] at hA2
            obtain⟨nbb,rfl,hcell⟩:=(zu hR).at hto;have cI:wr.cell? ⟨w.heap.size+1+1,t,none⟩=some (.int .i64 x):=k_rowC (zu hI).rI t (rH_at hx);have fI:=k_rowF (zu hI).rI t;have htl:t < m:=by rw[← (zu hI).len];exact(List.getElem?_eq_some_iff.1 hx).1
            have I1:=zh ((zu hI).setI t (x - 1));have R1:=zh ((zu hR).setI t (.int .i64 (x - 1)));have dX:(wr.setCell ⟨w.heap.size+1+1,t,none⟩ (.int .i64 (x - 1))).cell? ⟨w.heap.size,0,none⟩=some (.slice a m cap):=k_rowC (zu I1).rX 0 rfl;have dY:(wr.setCell ⟨w.heap.size+1+1,t,none⟩ (.int .i64 (x - 1))).cell? ⟨w.heap.size+1,0,none⟩=some (.slice ha m hcap):=k_rowC (zu I1).rY 0 rfl;clear hd hto hx ht0 hI hR;by_cases hx1:x - 1=0
            ·rw[if_pos hx1] at hA2
             cases hcb:kCnt code hs t with
             | none=>rw[hcb] at hA2;cases hA2
             | some cb =>
             rw[hcb] at hA2;simp only at hA2;have HB:=zh hcb;have hxt:((x - 1) == 0)=true:=by simp[hx1]
             clear hcb hx1;cases cb with
             | false =>
              have HA2:Hd (kSub code hs (NX.drop (p+1)) (it'.set t (x - 1)) fr=some q):=by unfold Hd;simpa using hA2
              clear hA2
              go_wp2_with (go_at_call 107;refine Calls.mono (zu HCt _ (zu I1).ext t false (zu HB) dX dY) ?_;rintro e w4 ⟨rfl,hw⟩;obtain rfl:=hw.symm)
              go_roundw
              case rel=>exact⟨p+1,_,fr,fa,fc,by go_num,rfl,by omega,by omega,HA2,I1,R1⟩
              case measure=>simp[intOf];omega
             | true =>
              have HA2:Hd (kSub code hs (NX.drop (p+1)) (it'.set t (x - 1)) (t :: fr)=some q):=by unfold Hd;simpa using hA2
              have hZ:(wr.setCell ⟨w.heap.size+1+1,t,none⟩ (.int .i64 (x - 1))).heap.size=wr.heap.size:=by simp[World.setCell]
              have HZ:=zh hZ;have HO:Hd (∀ ob,((wr.setCell ⟨w.heap.size+1+1,t,none⟩ (.int .i64 (x - 1))).alloc ob).ownsRow (w.heap.size+3) 3 1 (.slice fa fr.length fc) fr.length (ns fr.reverse)):=fun ob=>((zu I1).on (Ext.alloc _ ob)).own;have HL:Hd (∀ ob,w.heap.size+3≤((wr.setCell ⟨w.heap.size+1+1,t,none⟩ (.int .i64 (x - 1))).alloc ob).heap.size):=fun ob=>Nat.le_trans (zu I1).fresh.1 (Ext.alloc _ ob).size;have HP:=zh (fun (w2:World) (ob:Obj) (g' cap':Nat)=>(zu I1).push (w2:=w2) (ob:=ob) (g':=g') (cap':=cap') (j:=t));have HQ:=zh (fun (w2:World) (ob:Obj) (g':Nat)=>(zu R1).push (w2:=w2) (ob:=ob) (g':=g') (m:=fr.length) (c:=fc));clear hA2 hZ;generalize ns fr.reverse=XS at HO HP
              go_wp2_with (first
               | (go_at_call 107;refine Calls.mono (zu HCt _ (zu I1).ext t true (zu HB) dX dY) ?_;rintro e w4 ⟨rfl,hw⟩;obtain rfl:=hw.symm)
               | (at_builtin;refine kapp_list rfl (.tmp 106) (.tmp 108) 77 rfl (w.heap.size+3) 3 i0 (.int .i64 0) 1 8 Tryz.underlying77 (zu HI) (zu Z0) (zu Z1) (zu Z2) rfl (by decide) fa fr.length fc _ rfl (zu HO _) ⟨wr.heap.size,0,none⟩ 1 1 [.int .i64 (t:Int)] rfl (by decide) rfl (k_new _ _ (zu HZ).symm _ _) (k_one_int _) ?c1 ?c2 (zu HL _) ?_))
              case c1=>unfold maxLen;omega
              case c2=>omega
              intro g' cap' w3 ho hg hw;have HW:=zh (zu HP w3 _ g' cap' hg ho);have HV:=zh (zu HQ w3 _ g' hg (hw.imp id (fun e=>by rw[heap_alloc_size,zu HZ];exact e)));clear ho hg hw
              go_wp2_with fail
              go_roundw
              case rel=>exact⟨p+1,_,t :: fr,_,cap',by go_num,rfl,by omega,by simp;omega,HA2,HW,HV⟩
              case measure=>simp[intOf];omega
            ·rw[if_neg hx1] at hA2
             have HA2:=zh hA2;have hxt:((x - 1) == 0)=false:=by rw[beq_eq_false_iff_ne];exact hx1
             clear hA2 hx1
             go_wp2_with fail
             go_roundw
             case rel=>exact⟨p+1,_,fr,fa,fc,by go_num,rfl,by omega,by omega,HA2,I1,R1⟩
             case measure=>simp[intOf];omega
           ·rw[if_neg hxb] at hA2;cases hA2
          ·obtain rfl:p=NX.length:=by omega
           have hq:=zu hS;rw[List.drop_length,kSub] at hq;injection hq with hq;subst hq
           go_wp2_with fail
           go_roundg gk
           case measure=>omega
           case rel=>exact⟨lf' - 1,it',fr,fa,fc,by go_num,rfl,HE2,hI,by omega⟩
        ·rw[if_neg hlb] at hE2;cases hE2
end V
namespace V
def kTkL (code:List KI) (hs:List Int):Nat→Nat→Option Bool
 | 0,_=>some true
 | m+1,j=>match hs[j]? with
  | none=>none
  | some x=>if x = -1 then kTkL code hs m (j+1) else match kCallT code j with
   | none=>none
   | some c=>if c then kTkL code hs m (j+1) else some false
def kTicked (code:List KI) (hs:List Int) (K:Nat):Option Bool :=
 match kTkL code hs code.length 0 with
 | none=>none
 | some c=>if c then (match kCyc code hs K with
   | none=>none
   | some b=>some (!b)) else some false
theorem kTkL_step (code:List KI) (hs:List Int) {n k:Nat} (hk:k < n):kTkL code hs (n - k) k=match hs[k]? with
  | none=>none
  | some x=>if x = -1 then kTkL code hs (n - (k+1)) (k+1) else match kCallT code k with
   | none=>none
   | some c=>if c then kTkL code hs (n - (k+1)) (k+1) else some false:=by
 rw[show n - k=(n - (k+1))+1 by omega,kTkL]
theorem ticked_w (code:List KI) (hs:List Int) (a ha:Option Addr) (cap hcap K:Nat) (r:Bool) (w:World) (hc:RepC w (In w) a code) (hh:RepZ w (In w) ha hs) (hl:hs.length=code.length) (hn:code.length≤1000000) (hK:K≤1000000) (hr:kTicked code hs K=some r) :
  Calls Tryz.prog 52 #[.slice a code.length cap,.slice ha code.length hcap] w fun e w'=>e = .returned (.bool r)∧Ext w w':=by
 have HCT:=zh (fun (W:World) (e:Ext w W) (j:Nat) (r:Bool)=>callT_any code j r a cap W (hc.ext e) hn);have HCY:=zh (fun (W:World) (e:Ext w W) (r:Bool)=>cyc_w code hs a ha cap hcap K r W (hc.ext e) (hh.ext e) hl hn hK);unfold kTicked at hr;cases hT:kTkL code hs code.length 0 with
 | none=>rw[hT] at hr;cases hr
 | some c =>
 rw[hT] at hr;simp only at hr;have HT:=zh hT;have HR:=zh hr;have HH:=zh hh;clear hT hr hc hh;generalize hN:code.length=n at *;have HN:=zh hN;clear hN
 go_enter Tryz.func52,Tryz.ntmps52
 go_wp2_with fail
 go_loopw [9] (fun t wr => ∃ (k:Nat),t = .int .i64 k∧k≤n∧Hd (kTkL code hs (n - k) k=some c)∧Hd (Ext w wr)) (fun t _=>n - (intOf t).toNat)
 case atStart=>exact⟨0,rfl,by omega,HT,Ext.refl w⟩
 case round =>
  clear HT;obtain⟨k,rfl,hk,hE,hX⟩:=hrel;by_cases hlt:k < n
  ·have hE2:=zu hE
   rw[kTkL_step code hs hlt] at hE2;cases hx:hs[k]? with
   | none=>rw[hx] at hE2;cases hE2
   | some x =>
   rw[hx] at hE2;simp only at hE2;obtain⟨hb,rfl,hcell⟩:∃ hb,ha=some ⟨hb,0,none⟩∧wr.cell? ⟨hb,k,none⟩=some (.int .i64 x):=by
    rcases (zu HH).ext (zu hX) with h | ⟨hb,e,_,hc⟩
    ·rw[h] at hx;simp at hx
    ·exact⟨hb,e,hc k x hx⟩
   clear hx;by_cases hx1:x = -1
   ·rw[if_pos hx1] at hE2
    have HE2:=zh hE2;have hxf:(x != -1)=false:=by simp[hx1]
    clear hE2 hx1
    go_wp2_with fail
    go_roundw
    case rel=>exact⟨k+1,by go_num,by omega,HE2,hX⟩
    case measure=>simp[intOf];omega
   ·rw[if_neg hx1] at hE2
    have hxf:(x != -1)=true:=by simp[hx1]
    clear hx1;cases hq:kCallT code k with
    | none=>rw[hq] at hE2;cases hE2
    | some b =>
    rw[hq] at hE2;simp only at hE2;have HQ:=zh hq;clear hq;cases b with
    | true =>
     have HE2:Hd (kTkL code hs (n - (k+1)) (k+1)=some c):=hE2;clear hE2
     go_wp2_with (go_at_call 87;refine Calls.mono (zu HCT _ (zu hX) k true (zu HQ)) ?_;rintro e w4 ⟨rfl,hw⟩;have X4:=zh ((zu hX).trans hw);clear hw)
     go_roundw
     case rel=>exact⟨k+1,by go_num,by omega,HE2,X4⟩
     case measure=>simp[intOf];omega
    | false =>
     have hcf:Hd (r=false):=by
      have e:c=false:=by injection hE2 with e;exact e.symm
      have:=zu HR;rw[e] at this;injection this with this;exact this.symm
     clear hE2
     go_wp2_with (go_at_call 87;refine Calls.mono (zu HCT _ (zu hX) k false (zu HQ)) ?_;rintro e w4 ⟨rfl,hw⟩;have X4:=zh ((zu hX).trans hw);clear hw)
     rw[zu hcf];go_ret;exact⟨rfl,zu X4⟩
  ·obtain rfl:k=n:=by omega
   have hq:=zu hE;rw[Nat.sub_self,kTkL] at hq;injection hq with hq;subst hq;have hr:=zu HR;simp only[if_true] at hr;cases hcy:kCyc code hs K with
   | none=>rw[hcy] at hr;cases hr
   | some b =>
   rw[hcy] at hr;injection hr with hr;have HB:=zh hcy;have HF:=zh hr;clear hcy hr hE hlt
   go_wp2_with (go_at_call 88;refine Calls.mono (zu HCY _ (zu hX) b (zu HB)) ?_;rintro e w4 ⟨rfl,hw⟩;have X4:=zh ((zu hX).trans hw);clear hw)
   rw[← zu HF];go_ret;exact⟨rfl,zu X4⟩
end V
namespace V
structure KF where
 nm:ByteArray
 ps:Int
 lc:Int
 cs:List PV
 code:List KI
abbrev kfV (f:KF) (ca:Option Addr) (cc:Nat) (ka:Option Addr) (kc:Nat):Value:=.agg #[.string f.nm,.int .i64 f.ps,.int .i64 f.lc,.slice ca f.cs.length cc,.slice ka f.code.length kc]
def kPl (k n:Int):Bool:=decide (0≤k∧k < n)
def kMay (f:KF) (i:KI):Bool :=
 if i.op=1 then kPl i.a f.cs.length else if i.op=2∨i.op=3 then kPl i.a f.lc else if i.op=7∨i.op=8 then kPl i.a f.code.length
 else if i.op=5 then kAr i.a == 2 else if i.op=6 then kAr i.a == 1 else if i.op=12 then kPl (i.a - 1) 4095 else if i.op=13 then kPl i.a 65
 else if i.op=4∨i.op=10∨i.op=11 then i.a == 0 else false
def kStand (fns:List KF) (f:KF) (i:KI):Bool :=
 if i.op=9 then (kPl i.a fns.length && (match fns[i.a.toNat]? with
  | none=>false
  | some g=>i.b == g.ps))
 else (i.b == 0 && kMay f i)
def kForm (fns:List KF) (fn:Int):Bool :=
 kPl fn fns.length && (match fns[fn.toNat]? with
  | none=>false
  | some f=>kPl f.ps 9 && (decide (f.ps≤f.lc) && (decide (f.lc≤64) && (decide (0 < f.code.length∧f.code.length≤1000) && (f.cs.all okv && f.code.all (kStand fns f))))))
theorem mayTake_any (f:KF) (i:KI) (ca ka:Option Addr) (cc kc:Nat) (w:World) (h1:f.cs.length≤1000000) (h2:f.code.length≤1000000) :
  Calls Tryz.prog 123 #[kfV f ca cc ka kc,kiV i] w fun e w'=>e = .returned (.bool (kMay f i))∧Ext w w':=by
 have HP:=zh (fun (k n:Int) (W:World)=>isPlace_any k n W);have HA:=zh (fun (k:Int) (W:World)=>arityK k W);obtain⟨p,x,y⟩:=i;unfold kMay;simp only;have hE:∀ (o1 o2:Obj),Ext w ((w.alloc o1).alloc o2):=fun o1 o2=>(Ext.alloc _ _).trans (Ext.alloc _ _);have HE:=zh hE;clear hE;generalize hCS:f.cs.length=CS at *;generalize hKS:f.code.length=KS at *;rcases op_cases p with rfl | rfl | rfl | rfl | rfl | rfl | rfl | rfl | rfl | rfl | rfl | rfl | rfl | ⟨n1,n2,n3,n4,n5,n6,n7,n8,n9,n10,n11,n12,n13⟩
 case inr.inr.inr.inr.inr.inr.inr.inr.inr.inr.inr.inl =>
  have hE:(kPl (x - 1) 4095=false∧x < 1)∨(kPl (x - 1) 4095=true∧1≤x∧x≤4095)∨(kPl (x - 1) 4095=false∧1≤x∧4095 < x):=by
   rcases (show x < 1∨(1≤x∧x≤4095)∨(1≤x∧4095 < x) by omega) with h | h | h
   ·exact Or.inl ⟨decide_eq_false (by omega),h⟩
   ·exact Or.inr (Or.inl ⟨decide_eq_true (by omega),h⟩)
   ·exact Or.inr (Or.inr ⟨decide_eq_false (by omega),h⟩)
  rcases hE with⟨e,h⟩ | ⟨e,h,h'⟩ | ⟨e,h,h'⟩
  all_goals
   have E:=zh e;clear e
   go_enter Tryz.func123,Tryz.ntmps123
   go_wp2_with fail
   go_ret;exact⟨ret_bool (by simp[zu E];try omega),zu HE _ _⟩
 case inr.inr.inr.inr.inr.inr.inr.inr.inr.inr.inr.inr.inl =>
  have hE:(kPl x 65=false∧x < 0)∨(kPl x 65=true∧0≤x∧x≤64)∨(kPl x 65=false∧0≤x∧64 < x):=by
   rcases (show x < 0∨(0≤x∧x≤64)∨(0≤x∧64 < x) by omega) with h | h | h
   ·exact Or.inl ⟨decide_eq_false (by omega),h⟩
   ·exact Or.inr (Or.inl ⟨decide_eq_true (by omega),h⟩)
   ·exact Or.inr (Or.inr ⟨decide_eq_false (by omega),h⟩)
  rcases hE with⟨e,h⟩ | ⟨e,h,h'⟩ | ⟨e,h,h'⟩
  all_goals
   have E:=zh e;clear e
   go_enter Tryz.func123,Tryz.ntmps123
   go_wp2_with fail
   go_ret;exact⟨ret_bool (by simp[zu E];try omega),zu HE _ _⟩
 all_goals
  go_enter Tryz.func123,Tryz.ntmps123
  go_wp2_with (first | (go_at_call 20;refine Calls.mono (zu HP _ _ _) ?_;rintro e w1 ⟨rfl,hw⟩;obtain rfl:=hw.symm) | (go_at_call 109;refine Calls.mono (zu HA _ _) ?_;rintro e w1 ⟨rfl,hw⟩;obtain rfl:=hw.symm))
  go_ret;exact⟨ret_bool (by simp[kPl, *]),zu HE _ _⟩
def RepP (w:World) (F:Nat→Prop) (a:Option Addr) (l:List KF):Prop :=
 l = []∨∃ b o,a=some ⟨b,o,none⟩∧F b∧∀ j f,l[j]? = some f→∃ ca cc ka kc,w.cell? ⟨b,o+j * 5,none⟩=some (.string f.nm)∧w.cell? ⟨b,o+j * 5+1,none⟩=some (.int .i64 f.ps)∧w.cell? ⟨b,o+j * 5+2,none⟩=some (.int .i64 f.lc) ∧
  w.cell? ⟨b,o+j * 5+3,none⟩=some (.slice ca f.cs.length cc)∧w.cell? ⟨b,o+j * 5+4,none⟩=some (.slice ka f.code.length kc)∧RepL w F f.cs ca∧RepC w F ka f.code
theorem RepP.to {w w':World} {F F':Nat→Prop} (h:∀ b,F b→F' b∧w'.heap[b]? = w.heap[b]?) {l:List KF} {a:Option Addr} (hr:RepP w F a l):RepP w' F' a l:=by
 rcases hr with hr | ⟨b,o,rfl,hf,hc⟩
 ·exact Or.inl hr
 ·refine Or.inr ⟨b,o,rfl,(h b hf).1,fun j i hi => ?_⟩
  have hk:∀ x,w'.cell? ⟨b,x,none⟩=w.cell? ⟨b,x,none⟩:=fun x=>World.cell?_of_block (w:=w) (h b hf).2;obtain⟨ca,cc,ka,kc,c0,c1,c2,c3,c4,r1,r2⟩:=hc j i hi;refine⟨ca,cc,ka,kc,?_,?_,?_,?_,?_,RepL.to h _ _ r1,r2.to h⟩
  all_goals rw[hk];assumption
theorem RepP.ext {w w':World} {l:List KF} {a:Option Addr} (hr:RepP w (In w) a l) (h:Ext w w'):RepP w' (In w') a l :=
 hr.to fun b hb=>⟨Nat.lt_of_lt_of_le hb h.size,h.block b hb⟩
theorem RepP.at {w:World} {F:Nat→Prop} {l:List KF} {a:Option Addr} (hr:RepP w F a l) {j:Nat} {f:KF} (h:l[j]? = some f) :
  ∃ b o ca cc ka kc,a=some ⟨b,o,none⟩∧F b∧w.cell? ⟨b,o+j * 5,none⟩=some (.string f.nm)∧w.cell? ⟨b,o+j * 5+1,none⟩=some (.int .i64 f.ps)∧w.cell? ⟨b,o+j * 5+2,none⟩=some (.int .i64 f.lc) ∧
  w.cell? ⟨b,o+j * 5+3,none⟩=some (.slice ca f.cs.length cc)∧w.cell? ⟨b,o+j * 5+4,none⟩=some (.slice ka f.code.length kc)∧RepL w F f.cs ca∧RepC w F ka f.code:=by
 rcases hr with rfl | ⟨b,o,rfl,hf,hc⟩
 ·simp at h
 ·obtain⟨ca,cc,ka,kc,r⟩:=hc j f h
  exact⟨b,o,ca,cc,ka,kc,rfl,hf,r⟩
abbrev kpV (pa:Option Addr) (n pc:Nat) (m:Int):Value:=.agg #[.slice pa n pc,.int .i64 m]
theorem mayStand_any (fns:List KF) (f:KF) (i:KI) (pa ca ka:Option Addr) (pc cc kc:Nat) (m:Int) (w:World) (hp:RepP w (In w) pa fns) (h0:fns.length≤1000000) (h1:f.cs.length≤1000000) (h2:f.code.length≤1000000) :
  Calls Tryz.prog 103 #[kpV pa fns.length pc m,kfV f ca cc ka kc,kiV i] w fun e w'=>e = .returned (.bool (kStand fns f i))∧Ext w w':=by
 have HP:=zh (fun (k n:Int) (W:World)=>isPlace_any k n W);have HM:=zh (fun (W:World)=>mayTake_any f i ca ka cc kc W h1 h2);have HE:Hd (∀ (o1 o2 o3:Obj) (k:Nat),Ext w ((((w.alloc o1).alloc o2).alloc o3).drewN k)):=fun o1 o2 o3 k=>by
  have e:∀ (k:Nat) (W:World),Ext w W→Ext w (W.drewN k):=by
   intro k
   induction k with
   | zero=>intro W h;exact h
   | succ k ih=>intro W h;exact Ext.drew (ih W h)
  exact e k _ ((Ext.alloc _ _).trans ((Ext.alloc _ _).trans (Ext.alloc _ _)))
 unfold kStand;generalize kMay f i=KM at HM ⊢;obtain⟨FN,FP,FL,FC,FK⟩:=f;obtain⟨p,x,y⟩:=i;simp only at h1 h2 HM ⊢;generalize FC.length=CS at *;generalize FK.length=KS at *;by_cases hp9:p=9
 ·subst hp9
  rw[if_pos rfl];by_cases hx:0≤x∧x < (fns.length:Int)
  ·obtain⟨z,rfl⟩:∃ z:Nat,x=z:=⟨x.toNat,by omega⟩
   obtain⟨g,hg⟩:∃ g,fns[z]? = some g:=⟨_,List.getElem?_eq_getElem (by omega)⟩;obtain⟨b,o,ga,gc,gka,gkc,rfl,hf,c0,c1,c2,c3,c4,_,_⟩:=hp.at hg;have hk:kPl (z:Int) fns.length=true:=decide_eq_true hx;rw[hk,show ((z:Int)).toNat=z by omega,hg];have hz:z < fns.length:=by omega
   have q1:=fun o1 o2 o3=>((Ext.alloc w o1).trans ((Ext.alloc _ o2).trans (Ext.alloc _ o3))).cell c1;have HPt:Hd (∀ W,Calls Tryz.prog 20 #[.int .i64 (z:Int),.int .i64 (fns.length:Int)] W fun e w'=>e = .returned (.bool true)∧w' = W):=fun W=>by
    have h:=isPlace_any (z:Int) fns.length W;rw[decide_eq_true hx] at h;exact h
   clear hg hk hx hp c0 c2 c3 c4;generalize fns.length=N at *;simp only[Bool.true_and]
   go_enter Tryz.func103,Tryz.ntmps103
   go_wp2_with fail
   go_quiet ((go_at_call 20;exact Calls.quiet_of_same (zu HPt _)))
   go_wp2_with fail
   go_ret;exact⟨rfl,zu HE _ _ _ _⟩
  ·have HPt:Hd (∀ W,Calls Tryz.prog 20 #[.int .i64 x,.int .i64 (fns.length:Int)] W fun e w'=>e = .returned (.bool false)∧w' = W):=fun W=>by
    have h:=isPlace_any x fns.length W;rw[decide_eq_false hx] at h;exact h
   have hk:kPl x fns.length=false:=decide_eq_false hx;rw[hk];clear hk hx hp;generalize fns.length=N at *;simp only[Bool.false_and]
   go_enter Tryz.func103,Tryz.ntmps103
   go_wp2_with fail
   go_quiet ((go_at_call 20;exact Calls.quiet_of_same (zu HPt _)))
   go_wp2_with fail
   go_ret;exact⟨rfl,zu HE _ _ _ _⟩
 ·rw[if_neg hp9]
  have hpf:(p == 9)=false:=by rw[beq_eq_false_iff_ne];exact hp9
  clear hp9 hp;by_cases hy:y=0
  ·have hyt:(y == 0)=true:=by simp[hy]
   rw[hyt];simp only[Bool.true_and];clear hy
   go_enter Tryz.func103,Tryz.ntmps103
   go_wp2_with (go_at_call 123;refine Calls.mono (zu HM _) ?_;rintro e w1 ⟨rfl,hw⟩;have X:=zh hw;clear hw)
   go_ret;exact⟨rfl,(zu HE _ _ _ 0).trans (zu X)⟩
  ·have hyt:(y == 0)=false:=by rw[beq_eq_false_iff_ne];exact hy
   rw[hyt];simp only[Bool.false_and];clear hy
   go_enter Tryz.func103,Tryz.ntmps103
   go_wp2_with fail
   go_ret;exact⟨rfl,zu HE _ _ _ 0⟩
end V
end Go.Proofs.YtjnpehohialmbaaGreat
