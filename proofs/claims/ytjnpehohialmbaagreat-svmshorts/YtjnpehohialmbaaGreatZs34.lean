/- The heights of a code,as the document finds them. -/
import Derived.Test.YtjnpehohialmbaaGreatZs33
set_option linter.unusedSimpArgs false
set_option linter.unusedVariables false
set_option maxRecDepth 10000
set_option maxHeartbeats 4000000
namespace Go.Proofs.YtjnpehohialmbaaGreat
open Go.RowKit
namespace V
theorem Ext.rowV {w w':World} (h:Ext w w') {g:Nat} {o:Obj} (hg:w.heap[g]? = some o):w'.heap[g]? = some o :=
 (h.block g (Array.getElem?_eq_some_iff.1 hg).1).trans hg
theorem own_litV (W:World) (base:Nat) (x:Int) (h:base≤W.heap.size):(W.alloc (.cells #[.int .i64 x] 3)).ownsRow base 3 1 (.slice (some ⟨W.heap.size,0,none⟩) 1 1) 1 [.int .i64 x] :=
 ⟨rfl,.inr ⟨W.heap.size,1,#[.int .i64 x],rfl,h,Go.heap_alloc_new _ _,Nat.le_refl _,by unfold maxLen;omega,rfl,rfl⟩⟩
def minI (k n:Nat):List Int:=List.replicate k (-1)++List.replicate (n - k) 0
theorem minI_set {k n:Nat} (h:k < n):(minI k n).set k (-1)=minI (k+1) n:=by
 unfold minI;have e:List.replicate (n - k) (0:Int)=0 :: List.replicate (n - (k+1)) 0:=by
  rw[show n - k=n - (k+1)+1 by omega];rfl
 rw[e,List.set_append_right _ _ (by simp)];simp[List.replicate_succ']
theorem minI_at {k n:Nat} (h:k < n):(minI k n)[k]? = some 0:=by
 unfold minI;rw[List.getElem?_append_right (by simp),List.length_replicate,Nat.sub_self,List.getElem?_replicate,if_pos (by omega)]
theorem minI_all (n:Nat):minI n n=List.replicate n (-1):=by unfold minI;simp
def kFin (code:List KI) (k:Nat) (st:KW):Option (Option (List Int)):=match kRun code k st with
 | none=>none
 | some st=>if st.f then some none else some (some st.hs)
theorem kFin_bad {code:List KI} {k:Nat} {st:KW} {F:Option (List Int)} (hf:st.f=true) (h:kFin code k st=some F):F=none:=by
 unfold kFin at h;cases k with
 | zero=>cases h
 | succ k =>
  rw[kRun,hf] at h;simp[hf] at h;exact h.symm
theorem kFin_nil (code:List KI) (k:Nat) (hs:List Int):kFin code (k+1) ⟨hs,[],false⟩=some (some hs):=rfl
theorem kFin_cons (code:List KI) (k:Nat) (hs:List Int) (j:Nat) (r:List Nat):kFin code (k+1) ⟨hs,j :: r,false⟩=kFin code k (kLeave code ⟨hs,r,false⟩ j):=rfl
theorem kNext_none {code:List KI} {j:Nat} {i:KI} (h:code[j]? = some i) (hn:kNext code (j:Int) = []):i.op=10:=by
 rw[kNext_at h] at hn;unfold kLed kBoth at hn
 split at hn
 ·assumption
 ·split at hn
  ·cases hn
  ·split at hn
   ·split at hn
    ·cases hn
    ·split at hn <;> cases hn
   ·cases hn
def kRest (code:List KI) (s:Bool) (K:Nat):Option (List Int × Int):=if s then (match kHts code K with
 | none=>none
 | some none=>some ([],13)
 | some (some hs)=>match kTicked code hs K with
  | none=>none
  | some t=>if t then some (hs,0) else some ([],14)) else some ([],3)
theorem rheights_in (fns:List KF) (z:Nat) (f:KF) (pa:Option Addr) (pc:Nat) (m:Int) (K:Nat) (q:List Int × Int) (w:World) (hp:RepP w (In w) pa fns) (h0:fns.length≤1000000) (h1:KfB fns) (hlf:∀ c ∈ f.cs,∃ v,c=rcP v) (hK:K≤1000000) (hz:fns[z]? = some f)
  (e1:kPl f.ps 9=true) (e2:f.ps≤f.lc) (e3:f.lc≤64) (e4:0 < f.code.length) (e5:f.code.length≤1000) (h14:q.2≠14) (hq:kHgt fns (z:Int) K=some q) :
  Calls Tryz.prog 47 #[kpV pa fns.length pc m,.int .i64 (z:Int)] w (HgR w q):=by
 have hzl:z < fns.length:=(List.getElem?_eq_some_iff.1 hz).1;obtain⟨b,o,ca,cc,ka,kc,rfl,hb,c0,c1,c2,c3,c4,hrl,hrc⟩:=hp.at hz;have hfb:=h1 f (List.mem_of_getElem? hz);have hcsl:=hfb.1;have hbd:=zh hfb.2.2;have HW:=zh (fun (k n:Int) (W:World)=>rwithin_any k n W);have hkz:kPl (z:Int) fns.length=true:=decide_eq_true (by omega);have hkp:=e1;have HOk:=zh (fun (v:Option RK) (a:Option Addr) (c:Nat) (W:World)=>rok_rc v a c W)
 have HFm:Hd (∀ (W:World),Ext w W→∀ (i:KI),Calls Tryz.prog 78 #[.agg #[.slice (some ⟨b,o,none⟩) fns.length pc,.int .i64 m],.agg #[.string f.nm,.int .i64 f.ps,.int .i64 f.lc,.slice ca f.cs.length cc,.slice ka f.code.length kc],.agg #[.int .i64 i.op,.int .i64 i.a,.int .i64 i.b]] W fun e w'=>e = .returned (.bool (kStand fns f i))∧Ext W w'):=fun W x i=>rformed_any fns f i (some ⟨b,o,none⟩) ca ka pc cc kc m W (hp.ext x) h0 hcsl hfb.2.1;have HNx:=zh (fun (W:World) (x:Ext w W) (j:Nat)=>rnext_any f.code j ka kc W (hrc.ext x) hfb.2.1);have HLf:=zh hlf;have HRl:=zh hrl;have HRc:=zh hrc;have HQ:Hd (kRest f.code (f.code.all (kStand fns f)) K=some q):=by
  unfold Hd kRest;unfold kHgt at hq;have hall:f.cs.all okv=true:=List.all_eq_true.2 (fun c hc=>by obtain⟨v,rfl⟩:=hlf c hc;exact okv_rc v);rw[kForm_at hz,e1,decide_eq_true e2,decide_eq_true e3,decide_eq_true (show 0 < f.code.length∧f.code.length≤1000 from⟨e4,e5⟩),hall] at hq;simp only[Bool.true_and] at hq;cases hs:f.code.all (kStand fns f) with
  | true =>
   rw[hs,if_pos rfl,show ((z:Int)).toNat=z by omega,hz] at hq;rw[if_pos rfl];exact hq
  | false =>
   rw[hs,if_neg (by decide)] at hq;rw[if_neg (by decide)];exact hq
 have HNb:Hd (f.code.all (kStand fns f)=true→KNb f.code):=fun h=>kForm_nb hz (by
  have hall:f.cs.all okv=true:=List.all_eq_true.2 (fun c hc=>by obtain⟨v,rfl⟩:=hlf c hc;exact okv_rc v);rw[kForm_at hz,e1,decide_eq_true e2,decide_eq_true e3,decide_eq_true (show 0 < f.code.length∧f.code.length≤1000 from⟨e4,e5⟩),hall,h];rfl)
 have d0:=fun o1=>(Ext.alloc w o1).cell c0;have d1:=fun o1=>(Ext.alloc w o1).cell c1;have d2:=fun o1=>(Ext.alloc w o1).cell c2;have d3:=fun o1=>(Ext.alloc w o1).cell c3;have d4:=fun o1=>(Ext.alloc w o1).cell c4;have H14:=zh h14;obtain⟨i0f,hif,hz1f,hz2f,hz3f⟩:=k_info;have HIf:=zh hif;have Z0f:=zh hz1f;have Z1f:=zh hz2f;have Z2f:=zh hz3f;clear hif hz1f hz2f hz3f;obtain⟨W1,hW1⟩:∃ W1,W1=(w.alloc (.cells #[.slice (some ⟨b,o,none⟩) fns.length pc,.int .i64 m] 25)).alloc (.cells #[.string f.nm,.int .i64 f.ps,.int .i64 f.lc,.slice ca f.cs.length cc,.slice ka f.code.length kc] 82):=⟨_,rfl⟩;have X1:Ext w W1:=by rw[hW1];exact(Ext.alloc _ _).trans (Ext.alloc _ _)
 have r0:W1.heap[w.heap.size]? = some (.cells #[.slice (some ⟨b,o,none⟩) fns.length pc,.int .i64 m] 25 (0,0)):=by
  rw[hW1,(Ext.alloc _ _).block w.heap.size (by simp)];exact Go.heap_alloc_new w _
 have r1:W1.heap[w.heap.size+1]? = some (.cells #[.string f.nm,.int .i64 f.ps,.int .i64 f.lc,.slice ca f.cs.length cc,.slice ka f.code.length kc] 82 (0,0)):=by
  have:=Go.heap_alloc_new (w.alloc (.cells #[.slice (some ⟨b,o,none⟩) fns.length pc,.int .i64 m] 25)) (.cells #[.string f.nm,.int .i64 f.ps,.int .i64 f.lc,.slice ca f.cs.length cc,.slice ka f.code.length kc] 82);rw[heap_alloc_size] at this;rw[hW1];exact this
 have HX1:=zh X1;have R0:=zh r0;have R1:=zh r1;have HW1:=zh hW1;have e2':¬ f.lc < f.ps:=by omega
 have e3':¬ 64 < f.lc:=by omega
 have e4':((f.code.length:Int) == 0)=false:=by rw[beq_eq_false_iff_ne];omega
 have e5':¬ 1000 < (f.code.length:Int):=by omega
 obtain⟨ST,hST⟩:∃ ST,ST=kStand fns f:=⟨_,rfl⟩;rw[← hST] at HQ HNb HFm;clear hST;clear hp h1 hlf hz hq c0 c1 c2 c3 c4 hrl hrc hfb e1 e2 e3 h14 X1 r0 r1 hW1 hb;obtain⟨FN,FP,FL,FC,FK⟩:=f;simp only at *;generalize hCS:FC.length=CS at *;generalize hKS:FK.length=n at *;generalize fns.length=N at *
 go_enter Tryz.func47,Tryz.ntmps47
 go_wp2_with (go_at_call 77;refine Calls.mono (zu HW _ _ _) ?_;rintro e w1 ⟨rfl,hw⟩;obtain rfl:=hw.symm)
 rw[← zu HW1];clear d0 d1 d2 d3 d4 hkp hkz e2' e3' e4' e5'
 go_loopw [7] (fun t wr => ∃ (k:Nat),t = .int .i64 k∧k≤CS∧Hd (Ext W1 wr)) (fun t _=>CS - (intOf t).toNat)
 case atStart=>exact⟨0,rfl,by omega,Ext.refl _⟩
 case round =>
  obtain⟨k,rfl,hk,hX⟩:=hrel;have f3:wr.cell? ⟨w.heap.size+1,3,none⟩=some (.slice ca CS cc):=k_rowC (Ext.rowV (zu hX) (zu R1)) 3 rfl;by_cases hlt:k < CS
  ·have hlt2:(k:Int) < (CS:Int):=by omega
   obtain⟨c,hc⟩:∃ c,FC[k]? = some c:=⟨_,List.getElem?_eq_getElem (by omega)⟩;obtain⟨v,rfl⟩:=zu HLf c (List.mem_of_getElem? hc);obtain⟨b3,o3,a',cap',rfl,el⟩:=((zu HRl).ext ((zu HX1).trans (zu hX))).get k _ hc;have c0:=el.c0;have c1:=el.c1;have c2:=el.c2;have c3:=el.c3;have c4:=el.c4;clear el hc;simp only[rcP] at c0 c1 c2 c3 c4
   go_wp2_with (go_at_call 45;refine Calls.mono (zu HOk v a' cap' _) ?_;rintro e w3 ⟨rfl,hw⟩;have X3:=zh ((zu hX).trans hw);clear hw)
   go_roundw
   case rel=>exact⟨k+1,by go_num,by omega,X3⟩
   case measure=>simp[intOf];omega
  ·have hkf:¬ (k:Int) < (CS:Int):=by omega
   clear hlt hk f3;have hXa:=hX;have f4:wr.cell? ⟨w.heap.size+1,4,none⟩=some (.slice ka n kc):=k_rowC (Ext.rowV (zu hX) (zu R1)) 4 rfl;have f3:wr.cell? ⟨w.heap.size+1,3,none⟩=some (.slice ca CS cc):=k_rowC (Ext.rowV (zu hX) (zu R1)) 3 rfl
   go_wp2_with fail
   clear f3 f4 hkf;obtain⟨T,hT⟩:∃ T,T=FK.all ST:=⟨_,rfl⟩;have HT:=zh hT;clear hT
   go_loopw [8] (fun t wr => ∃ (k:Nat),t = .int .i64 k∧k≤n∧Hd ((FK.drop k).all ST=T)∧Hd (Ext W1 wr)) (fun t _=>n - (intOf t).toNat)
   case atStart=>exact⟨0,rfl,by omega,(zu HT).symm,hX⟩
   case round =>
    clear hX hXa;obtain⟨k,rfl,hk,hE,hX⟩:=hrel;have f4:wr.cell? ⟨w.heap.size+1,4,none⟩=some (.slice ka n kc):=k_rowC (Ext.rowV (zu hX) (zu R1)) 4 rfl;by_cases hlt:k < n
    ·have hlt2:(k:Int) < (n:Int):=by omega
     obtain⟨I,hI⟩:∃ I,FK[k]? = some I:=⟨_,List.getElem?_eq_getElem (by omega)⟩;have hE2:=zu hE;rw[List.drop_eq_getElem_cons (by omega),(List.getElem?_eq_some_iff.1 hI).2,List.all_cons] at hE2;obtain⟨b2,o2,rfl,_,i0,i1,i2⟩:=((zu HRc).ext ((zu HX1).trans (zu hX))).at hI;have hne:Nonempty (RGw wr):=⟨⟨wr,Ext.refl _⟩⟩;have y4:∀ y:RGw wr,y.w.cell? ⟨w.heap.size+1,4,none⟩=some (.slice (some ⟨b2,o2,none⟩) n kc):=fun y=>y.h.cell f4;have y3:∀ y:RGw wr,y.w.cell? ⟨w.heap.size+1,3,none⟩=some (.slice ca CS cc):=fun y=>y.h.cell (k_rowC (Ext.rowV (zu hX) (zu R1)) 3 rfl);have y2:∀ y:RGw wr,y.w.cell? ⟨w.heap.size+1,2,none⟩=some (.int .i64 FL):=fun y=>y.h.cell (k_rowC (Ext.rowV (zu hX) (zu R1)) 2 rfl)
     have y1:∀ y:RGw wr,y.w.cell? ⟨w.heap.size+1,1,none⟩=some (.int .i64 FP):=fun y=>y.h.cell (k_rowC (Ext.rowV (zu hX) (zu R1)) 1 rfl);have y0:∀ y:RGw wr,y.w.cell? ⟨w.heap.size+1,0,none⟩=some (.string FN):=fun y=>y.h.cell (k_rowC (Ext.rowV (zu hX) (zu R1)) 0 rfl);have p0:∀ y:RGw wr,y.w.cell? ⟨w.heap.size,0,none⟩=some (.slice (some ⟨b,o,none⟩) N pc):=fun y=>y.h.cell (k_rowC (Ext.rowV (zu hX) (zu R0)) 0 rfl);have p1:∀ y:RGw wr,y.w.cell? ⟨w.heap.size,1,none⟩=some (.int .i64 m):=fun y=>y.h.cell (k_rowC (Ext.rowV (zu hX) (zu R0)) 1 rfl);have j0:∀ y:RGw wr,y.w.cell? ⟨b2,o2+k * 3,none⟩=some (.int .i64 I.op):=fun y=>y.h.cell i0;have j1:∀ y:RGw wr,y.w.cell? ⟨b2,o2+k * 3+1,none⟩=some (.int .i64 I.a):=fun y=>y.h.cell i1
     have j2:∀ y:RGw wr,y.w.cell? ⟨b2,o2+k * 3+2,none⟩=some (.int .i64 I.b):=fun y=>y.h.cell i2;obtain⟨op,A,B⟩:=I;simp only at j0 j1 j2 hE2;have HFn:=zh (fun (y:RGw wr)=>zu HFm y.w ((zu HX1).trans ((zu hX).trans y.h)) ⟨op,A,B⟩);clear i0 i1 i2 hI;cases hs:ST ⟨op,A,B⟩ with
     | true =>
      rw[hs] at HFn;rw[hs,Bool.true_and] at hE2;have HE2:=zh hE2;clear hE2 hs
      go_wp2_with fail
      refine wp_region_rx (W:=wr) (by kernel_rfl) (by kernel_rfl) (Ext.refl _) ?_
      repeat (go_big_quiet_step ((go_at_call 78;exact Calls.rx_of _ _ (zu HFn _))))
      refine wpQuiet_nil ?_;rintro w4 ⟨⟨_,hx4⟩,rfl⟩;have X4:=zh ((zu hX).trans hx4);clear hx4
      go_wp2_with fail
      go_roundw
      case rel=>exact⟨k+1,by go_num,by omega,HE2,X4⟩
      case measure=>simp[intOf];omega
     | false =>
      rw[hs] at HFn;rw[hs,Bool.false_and] at hE2;have HE2:=zh hE2;clear hE2 hs
      go_wp2_with fail
      refine wp_region_rx (W:=wr) (by kernel_rfl) (by kernel_rfl) (Ext.refl _) ?_
      repeat (go_big_quiet_step ((go_at_call 78;exact Calls.rx_of _ _ (zu HFn _))))
      refine wpQuiet_nil ?_;rintro w4 ⟨⟨_,hx4⟩,rfl⟩;have X4:=zh ((zu HX1).trans ((zu hX).trans hx4));clear hx4
      go_wp2_with fail
      have hq3:q=([],3):=by
       have:=zu HQ;rw[← zu HT,← zu HE2] at this;unfold kRest at this;rw[if_neg (by decide)] at this;injection this with this;exact this.symm
      exact bodyPost_ret (v:=.tuple #[.slice none 0 0,.int .i64 3]) (by simp[results,Tryz.results47]) rfl ⟨none,0,by rw[hq3];rfl,Or.inl (by rw[hq3]),fun x hx=>by(rw[hq3] at hx;cases hx),zu X4⟩
    ·have hkf:¬ (k:Int) < (n:Int):=by omega
     have hkn:k=n:=by omega
     have hT1:T=true:=by
      have:=zu hE;rw[hkn,← hKS,List.drop_length] at this;exact this.symm
     have hall:FK.all ST=true:=(zu HT).symm.trans hT1;have HQ2:=zu HQ;rw[hall] at HQ2;unfold kRest at HQ2;rw[if_pos rfl] at HQ2;have hnb:=zu HNb hall;have HNb2:=zh hnb;cases hhts:kHts FK K with
     | none=>rw[hhts] at HQ2;cases HQ2
     | some F =>
     rw[hhts] at HQ2;have HHts:=zh hhts;have HQ3:=zh HQ2;have hmk:=make_ints n (by omega);obtain⟨W5,hW5⟩:∃ W5,W5=wr:=⟨_,rfl⟩;have X5:Hd (Ext w W5):=by rw[hW5];exact(zu HX1).trans (zu hX)
     have g4:Hd (W5.heap[w.heap.size+1]? = some (.cells #[.string FN,.int .i64 FP,.int .i64 FL,.slice ca CS cc,.slice ka n kc] 82 (0,0))):=by unfold Hd;rw[hW5];exact Ext.rowV (zu hX) (zu R1)
     have HI0:Hd (RcS W5 (W5.alloc (.cells (zs (List.replicate n 0)).toArray 3)) n (minI 0 n) [] none 0):=⟨Ext.alloc _ _,by rw[Go.heap_alloc_new];simp[minI],by simp[minI],World.ownsRow_nil _ _ _ _⟩;rw[← hW5] at f4 ⊢;clear HQ2 hhts hnb hall hT1 hkn hE hX hlt hk HT HQ HNb HFm HLf HOk HRl HW;clear hW5
     go_wp2_with fail
     rw[show (zs (List.replicate n 0)).toArray=Array.replicate n (.int .i64 0) by simp[zs]] at HI0
     go_loopw [10] (fun t wr => ∃ (k:Nat),t = .int .i64 k∧k≤n∧Hd (RcS W5 wr n (minI k n) [] none 0)) (fun t _=>n - (intOf t).toNat)
     case atStart=>exact⟨0,rfl,by omega,HI0⟩
     case round =>
      clear HI0 f4 hmk;obtain⟨k,rfl,hk,hI⟩:=hrel;by_cases hlt:k < n
      ·have hlt2:(k:Int) < (n:Int):=by omega
       have cI:wr.cell? ⟨W5.heap.size,k,none⟩=some (.int .i64 0):=k_rowC (zu hI).rI k (rH_at (minI_at hlt));have fI:=k_rowF (zu hI).rI k;have HN2:Hd (RcS W5 (wr.setCell ⟨W5.heap.size,k,none⟩ (.int .i64 (-1))) n (minI (k+1) n) [] none 0):=by
        have:=(zu hI).setI k (-1);rw[minI_set hlt] at this;exact this
       go_wp2_with fail
       go_roundw
       case rel=>exact⟨k+1,by go_num,by omega,HN2⟩
       case measure=>simp[intOf];omega
      ·have hkf:¬ (k:Int) < (n:Int):=by omega
       have hkn:k=n:=by omega
       have hI2:=zu hI;rw[hkn,minI_all] at hI2;have cI:wr.cell? ⟨W5.heap.size,0,none⟩=some (.int .i64 (-1)):=k_rowC hI2.rI 0 (rH_at (by rw[List.getElem?_replicate,if_pos e4]));have fI:=k_rowF hI2.rI 0;have HI2:=zh (hI2.setI 0 0);obtain⟨W6,hW6⟩:∃ W6,W6=wr.setCell ⟨W5.heap.size,0,none⟩ (.int .i64 0):=⟨_,rfl⟩;have hS6:W6.heap.size=wr.heap.size:=by rw[hW6];simp[World.setCell]
       rw[← hW6] at HI2;have HW6:=zh hW6;have HS6:=zh hS6;have HI3:Hd (RcS W5 (W6.alloc (.cells #[.int .i64 0] 3)) n ((List.replicate n (-1)).set 0 0) [0] (some ⟨wr.heap.size,0,none⟩) 1):=by
        have h9:=(zu HI2).on (Ext.alloc W6 (.cells #[.int .i64 0] 3));refine⟨h9.ext,h9.rI,h9.len,?_⟩;rw[← hS6];exact own_litV W6 _ 0 (zu HI2).fresh.1
       clear hI2 hI hlt hk hW6 hS6 HI2;have hSt:kCome n ⟨List.replicate n (-1),[],false⟩ 0 0=⟨(List.replicate n (-1)).set 0 0,[0],false⟩:=by
        unfold kCome;rw[if_neg (by omega)];simp only[Int.toNat_zero];rw[List.getElem?_replicate,if_pos e4];simp
       have hOk:KOk n ⟨(List.replicate n (-1)).set 0 0,[0],false⟩:=by
        rw[← hSt];exact KOk.come ⟨by simp,by simp,fun x hx=>by have:=List.eq_of_mem_replicate hx;omega⟩ 0 0 (by omega) (by omega)
       have hFin:kFin FK K ⟨(List.replicate n (-1)).set 0 0,[0],false⟩=some F:=by
        have:=zu HHts;unfold kHts at this;rw[hKS,hSt] at this;exact this
       have HOK:=zh hOk;have HFin:=zh hFin;clear hSt hOk hFin
       go_wp2_with fail
       rw[← zu HW6];have hfk:FK.length≤1000000:=by omega
       have HCi:=zh (fun (W:World) (x:Ext W5 W) (hs:List Int) (hz:RepZ W (In W) (some ⟨W5.heap.size,0,none⟩) hs) (hl:hs.length=FK.length) (hge:∀ x ∈ hs,-1≤x) (hcl:∀ (j:Nat),Rd hs j→∀ to ∈ kNext FK (j:Int),Rd hs to.toNat) (hr:kCyc FK hs K=some false)=>rcirc_w FK hs ka (some ⟨W5.heap.size,0,none⟩) kc n K false W ((zu HRc).ext ((zu X5).trans x)) hz hl hfk hK hge hcl hr);have HBa:=zh (fun (W:World) (x:Ext W5 W) (hs:List Int) (hz:RepZ W (In W) (some ⟨W5.heap.size,0,none⟩) hs) (hl:hs.length=FK.length) (hge:∀ x ∈ hs,-1≤x) (hr:kTkL FK hs FK.length 0=some true)=>rbare_w FK hs ka (some ⟨W5.heap.size,0,none⟩) kc n true W ((zu HRc).ext ((zu X5).trans x)) hz hl hfk hge hr);rw[hKS] at HCi HBa;have HPo:=zh (fun (i:KI) (W:World)=>rpops_any i W);have HPu:=zh (fun (i:KI) (W:World)=>rpushes_any i W)
       have hKSh:=zh hKS;clear hKS hfk
       go_loopg [11] K (fun gk t11 wr => ∃ (hs:List Int) (op:List Nat) (fa:Option Addr) (fc:Nat),t11 = .slice fa op.length fc∧Hd (kFin FK gk ⟨hs,op,false⟩=some F)∧Hd (RcS W5 wr n hs op fa fc)∧Hd (KOk n ⟨hs,op,false⟩)∧op.length+2 * gk≤1+2 * K)
       case atStart=>exact⟨_,[0],_,1,rfl,HFin,HI3,HOK,by simp⟩
       case round =>
        clear HFin HI3 HOK cI fI HW6 HS6;obtain⟨hs,op,fa,fc,rfl,hE,hI,hO,hol⟩:=hrel;cases gk with
        | zero=>have h9:=zu hE;cases h9
        | succ gk =>
        have f4:wr.cell? ⟨w.heap.size+1,4,none⟩=some (.slice ka n kc):=k_rowC (Ext.rowV (zu hI).ext (zu g4)) 4 rfl;cases op with
        | nil =>
         have hF:F=some hs:=by
          have:=zu hE;rw[kFin_nil] at this;injection this with this;exact this.symm
         simp only[List.length_nil];have hq3:=zu HQ3;rw[hF] at hq3;simp only at hq3;have hks:=zu hKSh;have hhts:=zu HHts;rw[hF] at hhts;obtain⟨iv1,iv2⟩:=kHts_inv (fun j x hx=>zu HNb2 j x hx) hhts;cases htk:kTicked FK hs K with
         | none=>rw[htk] at hq3;cases hq3
         | some tk =>
         rw[htk] at hq3;simp only at hq3;cases tk with
         | false =>
          rw[if_neg (by decide)] at hq3;injection hq3 with hq3;exact absurd (by rw[← hq3]) (zu H14)
         | true =>
         rw[if_pos rfl] at hq3;injection hq3 with hq3;unfold kTicked at htk;rw[hks] at htk;cases hkl:kTkL FK hs n 0 with
         | none=>rw[hkl] at htk;cases htk
         | some cl =>
         rw[hkl] at htk;simp only at htk;cases cl with
         | false=>rw[if_neg (by decide)] at htk;cases htk
         | true =>
         rw[if_pos rfl] at htk;cases hcy:kCyc FK hs K with
         | none=>rw[hcy] at htk;cases htk
         | some cy =>
         rw[hcy] at htk;simp only at htk;obtain rfl:cy=false:=by cases cy <;> first | rfl | cases htk
         have hzr:RepZ wr (In wr) (some ⟨W5.heap.size,0,none⟩) hs:=Or.inr ⟨_,rfl,k_lt (zu hI).rI,fun j x hx=>k_rowC (zu hI).rI j (rH_at hx)⟩;have HC1:=zh (zu HCi wr (zu hI).ext hs hzr (zu hO).1 (fun x hx=>((zu hO).2.2 x hx).1) (fun j hj to ht=>by
          obtain⟨x,h1,h2⟩:=hj;have hjl:j < FK.length:=by rw[← iv1];exact(List.getElem?_eq_some_iff.1 h1).1
          obtain⟨h3,h4⟩:=iv2 j x h1 h2 _ (List.getElem?_eq_getElem hjl);have hp:=kPush_ge FK[j];exact⟨_,h4 to ht,by omega⟩) hcy)
         have HB1:=zh (fun (W:World) (x:Ext wr W)=>zu HBa W ((zu hI).ext.trans x) hs (hzr.ext x) (zu hO).1 (fun x hx=>((zu hO).2.2 x hx).1) hkl);have HQ4:Hd (q=(hs,0)):=hq3.symm;have HZr:=zh hzr;have hX0:=zh ((zu X5).trans (zu hI).ext);have f4c:∀ W,Ext wr W→W.cell? ⟨w.heap.size+1,4,none⟩=some (.slice ka n kc):=fun W x=>x.cell f4;have F4:=zh f4c;clear hq3 hF hks hhts iv1 iv2 htk hkl hcy hzr f4c
         go_wp2_with (first
          | (go_at_call 80;refine Calls.mono (zu HC1) ?_;rintro e w5 ⟨rfl,hx⟩;have X6:=zh hx;have f5:=zu F4 _ hx;clear hx)
          | (go_at_call 81;refine Calls.mono (zu HB1 _ (zu X6)) ?_;rintro e w6 ⟨rfl,hx⟩;have X7:=zh ((zu X6).trans hx);clear hx))
         have hqq:=zu HQ4;subst hqq;have hhl:hs.length=n:=(zu hO).1;exact bodyPost_ret (v:=.tuple #[.slice (some ⟨W5.heap.size,0,none⟩) n n,.int .i64 0]) (by simp[results,Tryz.results47]) rfl ⟨some ⟨W5.heap.size,0,none⟩,n,by rw[hhl],Or.inr ⟨_,rfl,⟨(zu X5).size,Nat.lt_of_lt_of_le (k_lt (zu hI).rI) (zu X7).size⟩,fun j x hx=>(zu X7).cell (k_rowC (zu hI).rI j (rH_at hx))⟩,(zu hO).2.2,(zu hX0).trans (zu X7)⟩
        | cons j r =>
         have hj:j < n:=(zu hO).2.1 j (List.mem_cons_self ..);have hKn:=zu hKSh;obtain⟨I,hIj⟩:∃ I,FK[j]? = some I:=⟨_,List.getElem?_eq_getElem (by omega)⟩;obtain⟨x,hxj⟩:∃ x,hs[j]? = some x:=⟨_,List.getElem?_eq_getElem (by rw[(zu hO).1];exact hj)⟩;have hxb:=(zu hO).2.2 x (List.mem_of_getElem? hxj);have hE2:=zu hE;rw[kFin_cons] at hE2;unfold kLeave at hE2;rw[hIj] at hE2;simp only at hE2;rw[hxj] at hE2;simp only at hE2;rw[hKn] at hE2;have hib:=zu hbd I (List.mem_of_getElem? hIj);have hP0:=kPops_ge I;have hP1:=kPops_le I hib.2.1 hib.2.2.2;have hU:=kPush_ge I;have HRet:Hd (kNext FK (j:Int) = []→kPush I=0):=fun h=>by
          have:=kNext_none hIj h;unfold kPush;rw[if_neg (by omega)]
         obtain⟨g,rfl,hgc,hct⟩:=(zu hI).top;have HI1:=zh (zu hI).pop;have HO1:Hd (KOk n ⟨hs,r,false⟩):=⟨(zu hO).1,fun q hq=>(zu hO).2.1 q (List.mem_cons_of_mem _ hq),(zu hO).2.2⟩;obtain⟨b2,o2,rfl,_,i0,i1,i2⟩:=((zu HRc).ext ((zu X5).trans (zu hI).ext)).at hIj;have HP:=zh (fun (W:World)=>zu HPo I W);have HU:=zh (fun (W:World)=>zu HPu I W);have HNj:=zh (fun (W:World) (x:Ext w W)=>zu HNx W x j);have hNL:=kNext_len FK (j:Int);have HNg:Hd (∀ x ∈ kNext FK (j:Int),0≤x):=fun x hx=>zu HNb2 j x hx;have hrl:r.length+1+2 * (gk+1)≤1+2 * K:=by simpa using hol
         have cx:wr.cell? ⟨W5.heap.size,j,none⟩=some (.int .i64 x):=k_rowC (zu HI1).rI j (rH_at hxj);obtain⟨op,A,B⟩:=I;simp only at i0 i1 i2;generalize kPops ⟨op,A,B⟩=P at *;generalize kPush ⟨op,A,B⟩=U at *;have HE:=zh hE2;obtain⟨Wb,hWb⟩:∃ Wb,Wb=wr.alloc (.cells #[.int .i64 op,.int .i64 A,.int .i64 B] 128):=⟨_,rfl⟩;have xb:Ext wr Wb:=by rw[hWb];exact Ext.alloc _ _
         have rb:Wb.heap[wr.heap.size]? = some (.cells #[.int .i64 op,.int .i64 A,.int .i64 B] 128 (0,0)):=by rw[hWb];exact Go.heap_alloc_new wr _
         have HWb:=zh hWb;have Xb:=zh xb;have hne:Nonempty (RGw Wb):=⟨⟨Wb,Ext.refl _⟩⟩;have z0:∀ y:RGw Wb,y.w.cell? ⟨wr.heap.size,0,none⟩=some (.int .i64 op):=fun y=>y.h.cell (k_rowC rb 0 rfl);have z1:∀ y:RGw Wb,y.w.cell? ⟨wr.heap.size,1,none⟩=some (.int .i64 A):=fun y=>y.h.cell (k_rowC rb 1 rfl);have z2:∀ y:RGw Wb,y.w.cell? ⟨wr.heap.size,2,none⟩=some (.int .i64 B):=fun y=>y.h.cell (k_rowC rb 2 rfl);have zx:∀ y:RGw Wb,y.w.cell? ⟨W5.heap.size,j,none⟩=some (.int .i64 x):=fun y=>y.h.cell (xb.cell cx);clear hE2 hE hI hO hol hIj hxj hib hKn hWb xb rb;simp only[List.length_cons]
         go_wp2_with fail
         rw[← zu HWb];refine wp_region_rx (W:=Wb) (by kernel_rfl) (by kernel_rfl) (Ext.refl _) ?_
         repeat (go_big_quiet_step (first
          | (go_at_call 48;exact Calls.rx_of _ _ (zu HP _))
          | (go_at_call 49;exact Calls.rx_of _ _ (zu HU _))))
         refine wpQuiet_nil ?_;rintro w4 ⟨⟨_,hx4⟩,rfl⟩;have X4:=zh hx4;clear hx4;by_cases hxP:x < P
         ·have hdx:decide (x < P)=true:=decide_eq_true hxP
          have hF:F=none:=kFin_bad (st:=⟨hs,r,true⟩) rfl (by have:=zu HE;rw[if_pos (by omega)] at this;exact this);have hq4:=zu HQ3;rw[hF] at hq4;simp only at hq4;injection hq4 with hq4;have HQ5:=zh hq4;clear hF hq4
          go_wp2_with fail
          refine wp_region_rx (W:=Wb) (by kernel_rfl) (by kernel_rfl) (zu X4) ?_
          repeat (go_big_quiet_step (first
           | (go_at_call 48;exact Calls.rx_of _ _ (zu HP _))
           | (go_at_call 49;exact Calls.rx_of _ _ (zu HU _))))
          refine wpQuiet_nil ?_;rintro w5 ⟨⟨_,hx5⟩,rfl⟩;have X5b:=zh ((zu Xb).trans hx5);clear hx5
          go_wp2_with fail
          exact bodyPost_ret (v:=.tuple #[.slice none 0 0,.int .i64 13]) (by simp[results,Tryz.results47]) rfl ⟨none,0,by rw[← zu HQ5];rfl,Or.inl (by rw[← zu HQ5]),fun x hx=>by(rw[← zu HQ5] at hx;cases hx),(zu X5).trans ((zu HI1).ext.trans (zu X5b))⟩
         have hdx:decide (x < P)=false:=decide_eq_false hxP;have hE3:=zu HE;rw[if_neg (by omega)] at hE3;have HE3:=zh hE3;clear hE3;by_cases hk64:64 < x - P+U
         ·have hnx:kNext FK (j:Int)≠[]:=fun h=>by
           have:=zu HRet h;omega
          have hF:F=none:=by
           have:=zu HE3;cases hNX:kNext FK (j:Int) with
           | nil=>exact absurd hNX hnx
           | cons to rr =>
            rw[hNX,kComes] at this;refine kFin_bad (kComes_f n _ rr _ ?_) this;unfold kCome;rw[if_pos (Or.inr hk64)]
          have hq4:=zu HQ3;rw[hF] at hq4;simp only at hq4;injection hq4 with hq4;have HQ5:=zh hq4;clear hF hq4;clear hnx
          go_wp2_with fail
          refine wp_region_rx (W:=Wb) (by kernel_rfl) (by kernel_rfl) (zu X4) ?_
          repeat (go_big_quiet_step (first
           | (go_at_call 48;exact Calls.rx_of _ _ (zu HP _))
           | (go_at_call 49;exact Calls.rx_of _ _ (zu HU _))))
          refine wpQuiet_nil ?_;rintro w5 ⟨⟨_,hx5⟩,rfl⟩;have X5b:=zh ((zu Xb).trans hx5);clear hx5
          go_wp2_with fail
          exact bodyPost_ret (v:=.tuple #[.slice none 0 0,.int .i64 13]) (by simp[results,Tryz.results47]) rfl ⟨none,0,by rw[← zu HQ5];rfl,Or.inl (by rw[← zu HQ5]),fun x hx=>by(rw[← zu HQ5] at hx;cases hx),(zu X5).trans ((zu HI1).ext.trans (zu X5b))⟩
         go_wp2_with fail
         refine wp_region_rx (W:=Wb) (by kernel_rfl) (by kernel_rfl) (zu X4) ?_
         repeat (go_big_quiet_step (first
          | (go_at_call 48;exact Calls.rx_of _ _ (zu HP _))
          | (go_at_call 49;exact Calls.rx_of _ _ (zu HU _))))
         refine wpQuiet_nil ?_;rintro w5 ⟨⟨_,hx5⟩,rfl⟩;have X5b:=zh ((zu Xb).trans hx5);have HI5:=zh ((zu HI1).on ((zu Xb).trans hx5));have f5:=((zu Xb).trans hx5).cell f4;clear hx5 z0 z1 z2 zx cx f4 hct i0 i1 i2
         go_wp2_with (go_at_call 79;refine Calls.mono (zu HNj _ ((zu X5).trans (zu HI5).ext)) ?_;rintro e w6 ⟨nb,nc,rfl,r1,r2,r3⟩;have R2:=zh (RxR.new (zu HI5).fresh.1 (zu HI5).fresh.2 r2);have I6:=zh ((zu HI5).on r3);clear r1 r2 r3)
         have hh0:0≤x - P+U:=by omega
         have hh1:x - P+U≤64:=by omega
         generalize hNX:kNext FK (j:Int)=NX at *;generalize hH:x - P+U=H at *;clear HI5 X5b Xb X4 HWb HE HP HU hdx
         go_loopw [11,16] (fun t11 t wr => ∃ (p:Nat) (hs':List Int) (op':List Nat) (fa:Option Addr) (fc:Nat),t = .int .i64 p∧t11 = .slice fa op'.length fc∧p≤NX.length∧op'.length≤r.length+p∧Hd (kFin FK gk (kComes n H (NX.drop p) ⟨hs',op',false⟩)=some F)∧Hd (RcS W5 wr n hs' op' fa fc)∧Hd (RxR W5 wr fa nb NX)∧Hd (KOk n ⟨hs',op',false⟩)) (fun _ t _=>NX.length - (intOf t).toNat)
         case atStart=>exact⟨0,hs,r,_,fc,rfl,rfl,by omega,by omega,HE3,I6,R2,HO1⟩
         case round =>
          clear I6 R2 HI1 HE3 HO1 f5;obtain⟨p,hs',op',fa,fc,rfl,rfl,hp,hop,hS,hI,hR,hO⟩:=hrel;have f4:wr.cell? ⟨w.heap.size+1,4,none⟩=some (.slice (some ⟨b2,o2,none⟩) n kc):=k_rowC (Ext.rowV (zu hI).ext (zu g4)) 4 rfl;by_cases hlp:p < NX.length
          ·have hA2:=zu hS
           obtain⟨to,hto⟩:∃ to,NX[p]? = some to:=⟨_,List.getElem?_eq_getElem hlp⟩;have hd:NX.drop p=to :: NX.drop (p+1):=by
            obtain⟨h1,h2⟩:=List.getElem?_eq_some_iff.1 hto;rw[List.drop_eq_getElem_cons h1,h2]
           rw[hd,kComes] at hA2;have ht0:=zu HNg to (List.mem_of_getElem? hto);obtain⟨t,rfl⟩:∃ t:Nat,to=t:=⟨to.toNat,by omega⟩;obtain⟨nbb,rfl,hcell⟩:=(zu hR).at hto;have hne:Nonempty (RGw wr):=⟨⟨wr,Ext.refl _⟩⟩;have yc:∀ y:RGw wr,y.w.cell? ⟨nbb,p,none⟩=some (.int .i64 (t:Int)):=fun y=>y.h.cell hcell;have yf:∀ y:RGw wr,y.w.cell? ⟨w.heap.size+1,4,none⟩=some (.slice (some ⟨b2,o2,none⟩) n kc):=fun y=>y.h.cell f4;have hlp2:(p:Int) < (NX.length:Int):=by omega
           have HTo:=zh hto;clear hd hto ht0;by_cases htn:(n:Int)≤(t:Int)
           ·have hF:F=none:=kFin_bad (kComes_f n H _ _ (by unfold kCome;rw[if_pos (Or.inl htn)])) hA2
            have hq4:=zu HQ3;rw[hF] at hq4;simp only at hq4;injection hq4 with hq4;have HQ5:=zh hq4;clear hF hq4;clear hA2
            go_wp2_with fail
            refine wp_region_rx (W:=wr) (by kernel_rfl) (by kernel_rfl) (Ext.refl _) ?_
            repeat (go_big_quiet_step (fail))
            refine wpQuiet_nil ?_;rintro w8 ⟨⟨_,hx8⟩,rfl⟩;have X8:=zh ((zu hI).ext.trans hx8);clear hx8
            go_wp2_with fail
            exact bodyPost_ret (v:=.tuple #[.slice none 0 0,.int .i64 13]) (by simp[results,Tryz.results47]) rfl ⟨none,0,by rw[← zu HQ5];rfl,Or.inl (by rw[← zu HQ5]),fun x hx=>by(rw[← zu HQ5] at hx;cases hx),(zu X5).trans (zu X8)⟩
           ·obtain⟨y,hy⟩:∃ y,hs'[t]? = some y:=⟨_,List.getElem?_eq_getElem (by rw[(zu hO).1];omega)⟩
            have hyb:=(zu hO).2.2 y (List.mem_of_getElem? hy);have htl:t < n:=by omega
            have hKc:kCome n ⟨hs',op',false⟩ (t:Int) H=if y = -1 then ⟨hs'.set t H,t :: op',false⟩ else if y=H then ⟨hs',op',false⟩ else ⟨hs',op',true⟩:=by
             unfold kCome;rw[if_neg (by omega),show ((t:Int)).toNat=t by omega];simp only;rw[hy]
            rw[hKc] at hA2;have hkc2:=(zu hO).come (t:Int) H (by omega) (by omega);rw[hKc] at hkc2
            go_wp2_with fail
            refine wp_region_rx (W:=wr) (by kernel_rfl) (by kernel_rfl) (Ext.refl _) ?_
            repeat (go_big_quiet_step (fail))
            refine wpQuiet_nil ?_;rintro w8 ⟨⟨_,hx8⟩,rfl⟩;have I8:=zh ((zu hI).on hx8);have R8:=zh ((zu hR).on hx8);have hc8:=hx8.cell hcell;have cI:w8.cell? ⟨W5.heap.size,t,none⟩=some (.int .i64 y):=k_rowC (zu I8).rI t (rH_at hy);have fI:=k_rowF (zu I8).rI t;have HA2:=zh hA2;have HKc:=zh hkc2;have htl2:(t:Int) < (n:Int):=by omega
            clear hx8 hA2 hkc2 hKc hy yc yf hI hR hS f4 hcell hne;by_cases hy0:y < 0
            ·have hy1:y = -1:=by omega
             have hA3:=zu HA2;have hk3:=zu HKc;rw[if_pos hy1] at hA3 hk3;have HA3:=zh hA3;have HK3:=zh hk3;have I1:=zh ((zu I8).setI t H);have R1b:=zh ((zu R8).setI t (.int .i64 H));have hcell2:(w8.setCell ⟨W5.heap.size,t,none⟩ (.int .i64 H)).cell? ⟨nbb,p,none⟩=some (.int .i64 (t:Int)):=by
              obtain⟨b9,e9,c9⟩:=(zu R1b).at (zu HTo);injection e9 with e9;injection e9 with e9 _;subst e9;exact c9
             have hZ:(w8.setCell ⟨W5.heap.size,t,none⟩ (.int .i64 H)).heap.size=w8.heap.size:=by simp[World.setCell]
             have HZ:=zh hZ;have HO:Hd (∀ ob,((w8.setCell ⟨W5.heap.size,t,none⟩ (.int .i64 H)).alloc ob).ownsRow (W5.heap.size+1) 3 1 (.slice fa op'.length fc) op'.length (ns op'.reverse)):=fun ob=>((zu I1).on (Ext.alloc _ ob)).own;have HL:Hd (∀ ob,W5.heap.size+1≤((w8.setCell ⟨W5.heap.size,t,none⟩ (.int .i64 H)).alloc ob).heap.size):=fun ob=>Nat.le_trans (zu I1).fresh.1 (Ext.alloc _ ob).size;have HPp:=zh (fun (w2:World) (ob:Obj) (g' cap':Nat)=>(zu I1).push (w2:=w2) (ob:=ob) (g':=g') (cap':=cap') (j:=t));have HQp:=zh (fun (w2:World) (ob:Obj) (g':Nat)=>(zu R1b).push (w2:=w2) (ob:=ob) (g':=g') (m:=op'.length) (c:=fc));clear hA3 hk3 hZ HA2 HKc hy1 hyb;generalize ns op'.reverse=XS at HO HPp
             go_wp2_with (at_builtin;refine kapp_list rfl (.tmp 177) (.tmp 182) 77 rfl (W5.heap.size+1) 3 i0f (.int .i64 0) 1 8 Tryz.underlying77 (zu HIf) (zu Z0f) (zu Z1f) (zu Z2f) rfl (by decide) fa op'.length fc _ rfl (zu HO _) ⟨w8.heap.size,0,none⟩ 1 1 [.int .i64 (t:Int)] rfl (by decide) rfl (k_new _ _ (zu HZ).symm _ _) (k_one_int _) ?c1 ?c2 (zu HL _) ?_)
             case c1=>unfold maxLen;omega
             case c2=>omega
             intro g' cap' w9 ho hg hw;have HW9:=zh (zu HPp w9 _ g' cap' hg ho);have HV9:=zh (zu HQp w9 _ g' hg (hw.imp id (fun e=>by rw[heap_alloc_size,zu HZ];exact e)));clear ho hg hw
             go_wp2_with fail
             go_roundw
             case rel=>exact⟨p+1,_,t :: op',_,cap',by go_num,rfl,by omega,by simp;omega,HA3,HW9,HV9,HK3⟩
             case measure=>simp[intOf];omega
            ·by_cases hyH:y=H
             ·have hA3:=zu HA2
              have hk3:=zu HKc;rw[if_neg (by omega),if_pos hyH] at hA3 hk3;have HA3:=zh hA3;have HK3:=zh hk3;subst hyH;clear hA3 hk3 HA2 HKc
              go_wp2_with fail
              go_roundw
              case rel=>exact⟨p+1,hs',op',fa,fc,by go_num,rfl,by omega,by omega,HA3,I8,R8,HK3⟩
              case measure=>simp[intOf];omega
             ·have hA3:=zu HA2
              rw[if_neg (by omega),if_neg hyH] at hA3;have hF:F=none:=kFin_bad (kComes_f n H _ _ rfl) hA3;have hq4:=zu HQ3;rw[hF] at hq4;simp only at hq4;injection hq4 with hq4;have HQ5:=zh hq4;have hyf:(y != H)=true:=by simp[hyH]
              clear hF hq4 hA3 HA2 HKc hyH
              go_wp2_with fail
              exact bodyPost_ret (v:=.tuple #[.slice none 0 0,.int .i64 13]) (by simp[results,Tryz.results47]) rfl ⟨none,0,by rw[← zu HQ5];rfl,Or.inl (by rw[← zu HQ5]),fun x hx=>by(rw[← zu HQ5] at hx;cases hx),(zu X5).trans (zu I8).ext⟩
          ·obtain rfl:p=NX.length:=by omega
           have hq:=zu hS;rw[List.drop_length,kComes] at hq;have HEn:=zh hq;have hlpf:¬ ((NX.length:Int) < (NX.length:Int)):=by omega
           clear hq hS
           go_wp2_with fail
           go_roundg gk
           case measure=>omega
           case rel=>exact⟨hs',op',fa,fc,rfl,HEn,hI,hO,by omega⟩
end V
end Go.Proofs.YtjnpehohialmbaaGreat
