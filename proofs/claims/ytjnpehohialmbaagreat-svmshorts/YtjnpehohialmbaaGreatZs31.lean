/- Whether a function has its form;its heights. -/
import Derived.Test.YtjnpehohialmbaaGreatZs53
set_option linter.unusedSimpArgs false
set_option linter.unusedVariables false
set_option maxRecDepth 10000
set_option maxHeartbeats 1000000
namespace Go.Proofs.YtjnpehohialmbaaGreat
open Go.RowKit
namespace V
theorem all_drop {α:Type} (p:α→Bool) {l:List α} {k:Nat} {x:α} (h:l[k]? = some x):(l.drop k).all p=(p x && (l.drop (k+1)).all p):=by
 obtain⟨h1,h2⟩:=List.getElem?_eq_some_iff.1 h;rw[List.drop_eq_getElem_cons h1,h2,List.all_cons]
theorem consts_any (cs:List PV) (a:Option Addr) (c:Nat) (w:World) (hr:RepL w (In w) cs a) (hn:cs.length≤1000000) :
  Calls Tryz.prog 82 #[.slice a cs.length c] w fun e w'=>e = .returned (.bool (cs.all okv))∧Ext w w':=by
 have HO:=zh (fun (p:PV) (v:Value) (W:World)=>okv_any p v W);have HR:=zh hr;clear hr;obtain⟨T,hT⟩:∃ T,T=cs.all okv:=⟨_,rfl⟩;rw[← hT];have HT:Hd ((cs.drop 0).all okv=T):=hT.symm;clear hT;generalize hN:cs.length=n at *
 go_enter Tryz.func82,Tryz.ntmps82
 go_wp2_with fail
 go_loopw [7] (fun t wr => ∃ (k:Nat),t = .int .i64 k∧k≤n∧Hd ((cs.drop k).all okv=T)∧Hd (Ext w wr)) (fun t _=>n - (intOf t).toNat)
 case atStart=>exact⟨0,rfl,by omega,HT,Ext.refl w⟩
 case round =>
  clear HT;obtain⟨k,rfl,hk,hE,hX⟩:=hrel;by_cases hlt:k < n
  ·obtain⟨x,hx⟩:∃ x,cs[k]? = some x:=⟨_,List.getElem?_eq_getElem (by omega)⟩
   have hE2:=zu hE;rw[all_drop okv hx] at hE2;obtain⟨b,o,a',cap',rfl,el⟩:=((zu HR).ext (zu hX)).get k x hx;have c0:=el.c0;have c1:=el.c1;have c2:=el.c2;have c3:=el.c3;have c4:=el.c4;have HRp:=zh el.rep;clear el hx;obtain⟨xk,xn,xr,xi,xs,xl⟩:=x;simp only at c0 c1 c2 c3 c4 HRp;cases hq:okv ⟨xk,xn,xr,xi,xs,xl⟩ with
   | true =>
    have HQ:=zh hq;have HE2:Hd ((cs.drop (k+1)).all okv=T):=by rw[hq,Bool.true_and] at hE2;exact hE2
    clear hE2 hq
    go_wp2_with (go_at_call 102;refine Calls.mono (zu HO _ _ _ ((zu HRp).ext (Ext.alloc _ _))) ?_;rw[zu HQ];rintro e w1 ⟨rfl,hw⟩;have X1:=zh (((zu hX).trans (Ext.alloc _ _)).trans hw);clear hw)
    go_roundw
    case rel=>exact⟨k+1,by go_num,by omega,HE2,X1⟩
    case measure=>simp[intOf];omega
   | false =>
    have HQ:=zh hq;have HE2:Hd (T=false):=by rw[hq,Bool.false_and] at hE2;exact hE2.symm
    clear hE2 hq
    go_wp2_with (go_at_call 102;refine Calls.mono (zu HO _ _ _ ((zu HRp).ext (Ext.alloc _ _))) ?_;rw[zu HQ];rintro e w1 ⟨rfl,hw⟩;have X1:=zh (((zu hX).trans (Ext.alloc _ _)).trans hw);clear hw)
    rw[zu HE2];go_ret;exact⟨rfl,zu X1⟩
  ·obtain rfl:k=n:=by omega
   have HE2:Hd (T=true):=by
    have:=zu hE;rw[List.drop_eq_nil_of_le (by omega)] at this;exact this.symm
   go_wp2_with fail
   rw[zu HE2];go_ret;exact⟨rfl,zu hX⟩
theorem operands_any (fns:List KF) (f:KF) (pa ca ka:Option Addr) (pc cc kc:Nat) (m:Int) (w:World) (hp:RepP w (In w) pa fns) (hr:RepC w (In w) ka f.code) (h0:fns.length≤1000000) (h1:f.cs.length≤1000000) (h2:f.code.length≤1000000) :
  Calls Tryz.prog 83 #[kpV pa fns.length pc m,kfV f ca cc ka kc] w fun e w'=>e = .returned (.bool (f.code.all (kStand fns f)))∧Ext w w':=by
 have HO:=zh (fun (i:KI) (W:World) (x:Ext w W)=>mayStand_any fns f i pa ca ka pc cc kc m W (hp.ext x) h0 h1 h2);have HR:=zh hr;clear hr hp;obtain⟨T,hT⟩:∃ T,T=f.code.all (kStand fns f):=⟨_,rfl⟩;rw[← hT];have HT:Hd ((f.code.drop 0).all (kStand fns f)=T):=hT.symm;clear hT;obtain⟨FN,FP,FL,FC,FK⟩:=f;simp only[kfV,kpV,kiV] at h1 h2 HO HR HT ⊢;generalize hN:FK.length=n at *;generalize hCS:FC.length=CS at *;generalize hPS:fns.length=NP at *;have HX0:Hd (∀ o1 o2:Obj,Ext w ((w.alloc o1).alloc o2)):=fun o1 o2=>(Ext.alloc _ _).trans (Ext.alloc _ _)
 go_enter Tryz.func83,Tryz.ntmps83
 go_wp2_with fail
 go_loopw [10] (fun t wr => ∃ (k:Nat),t = .int .i64 k∧k≤n∧Hd ((FK.drop k).all (kStand fns ⟨FN,FP,FL,FC,FK⟩)=T)∧Hd (Ext ((w.alloc (.cells #[.slice pa NP pc,.int .i64 m] 25)).alloc (.cells #[.string FN,.int .i64 FP,.int .i64 FL,.slice ca CS cc,.slice ka n kc] 82)) wr)) (fun t _=>n - (intOf t).toNat)
 case atStart=>exact⟨0,rfl,by omega,HT,Ext.refl _⟩
 case round =>
  clear HT;obtain⟨k,rfl,hk,hE,hX⟩:=hrel;have hXw:Hd (Ext w wr):=(zu HX0 _ _).trans (zu hX);have p0:=(zu hX).cell ((Ext.alloc _ (.cells #[.string FN,.int .i64 FP,.int .i64 FL,.slice ca CS cc,.slice ka n kc] 82)).cell (cell_box w #[.slice pa NP pc,.int .i64 m] 25 0 rfl));have p1:=(zu hX).cell ((Ext.alloc _ (.cells #[.string FN,.int .i64 FP,.int .i64 FL,.slice ca CS cc,.slice ka n kc] 82)).cell (cell_box w #[.slice pa NP pc,.int .i64 m] 25 1 rfl));have f0:=(zu hX).box 0 rfl;have f1:=(zu hX).box 1 rfl;have f2:=(zu hX).box 2 rfl;have f3:=(zu hX).box 3 rfl;have f4:=(zu hX).box 4 rfl;simp only[heap_alloc_size] at f0 f1 f2 f3 f4;have P0:=fun ob=>(Ext.alloc wr ob).cell p0;have P1:=fun ob=>(Ext.alloc wr ob).cell p1;have F0:=fun ob=>(Ext.alloc wr ob).cell f0;have F1:=fun ob=>(Ext.alloc wr ob).cell f1
  have F2:=fun ob=>(Ext.alloc wr ob).cell f2;have F3:=fun ob=>(Ext.alloc wr ob).cell f3;have F4:=fun ob=>(Ext.alloc wr ob).cell f4;by_cases hlt:k < n
  ·obtain⟨x,hx⟩:∃ x,FK[k]? = some x:=⟨_,List.getElem?_eq_getElem (by omega)⟩
   have hE2:=zu hE;rw[all_drop _ hx] at hE2;obtain⟨b,o,rfl,hf,c0,c1,c2⟩:=((zu HR).ext (zu hXw)).at hx;have HM:=zh (fun (W:World) (e:Ext w W)=>zu HO x W e);clear hx hf;obtain⟨xo,xa,xb⟩:=x;simp only at c0 c1 c2 HM hE2;cases hq:kStand fns ⟨FN,FP,FL,FC,FK⟩ ⟨xo,xa,xb⟩ with
   | true =>
    rw[hq] at HM;have HE2:Hd ((FK.drop (k+1)).all (kStand fns ⟨FN,FP,FL,FC,FK⟩)=T):=by rw[hq,Bool.true_and] at hE2;exact hE2
    clear hE2 hq
    go_wp2_with (go_at_call 103;refine Calls.mono (zu HM _ ((zu hXw).trans (Ext.alloc _ _))) ?_;rintro e w1 ⟨rfl,hw⟩;have X1:=zh (((zu hX).trans (Ext.alloc _ _)).trans hw);clear hw)
    go_roundw
    case rel=>exact⟨k+1,by go_num,by omega,HE2,X1⟩
    case measure=>simp[intOf];omega
   | false =>
    rw[hq] at HM;have HE2:Hd (T=false):=by rw[hq,Bool.false_and] at hE2;exact hE2.symm
    clear hE2 hq
    go_wp2_with (go_at_call 103;refine Calls.mono (zu HM _ ((zu hXw).trans (Ext.alloc _ _))) ?_;rintro e w1 ⟨rfl,hw⟩;have X1:=zh (((zu hX).trans (Ext.alloc _ _)).trans hw);clear hw)
    rw[zu HE2];go_ret;exact⟨rfl,(zu HX0 _ _).trans (zu X1)⟩
  ·obtain rfl:k=n:=by omega
   have HE2:Hd (T=true):=by
    have:=zu hE;rw[List.drop_eq_nil_of_le (by omega)] at this;exact this.symm
   go_wp2_with fail
   rw[zu HE2];go_ret;exact⟨rfl,zu hXw⟩
theorem kForm_at {fns:List KF} {j:Nat} {f:KF} (h:fns[j]? = some f):kForm fns (j:Int)=(kPl f.ps 9 && (decide (f.ps≤f.lc) && (decide (f.lc≤64) && (decide (0 < f.code.length∧f.code.length≤1000) && (f.cs.all okv && f.code.all (kStand fns f)))))):=by
 unfold kForm;have hj:j < fns.length:=(List.getElem?_eq_some_iff.1 h).1;rw[show kPl (j:Int) fns.length=true from decide_eq_true (by omega),show ((j:Int)).toNat=j by omega,h,Bool.true_and]
theorem kForm_out {fns:List KF} {k:Int} (h:¬ (0≤k∧k < (fns.length:Int))):kForm fns k=false:=by
 unfold kForm;rw[show kPl k fns.length=false from decide_eq_false h,Bool.false_and]
theorem hasForm_any (fns:List KF) (fn:Int) (pa:Option Addr) (pc:Nat) (m:Int) (w:World) (hp:RepP w (In w) pa fns) (h0:fns.length≤1000000) (h1:∀ f ∈ fns,f.cs.length≤1000000∧f.code.length≤1000000) :
  Calls Tryz.prog 50 #[kpV pa fns.length pc m,.int .i64 fn] w fun e w'=>e = .returned (.bool (kForm fns fn))∧Ext w w':=by
 by_cases hx:0≤fn∧fn < (fns.length:Int)
 ·obtain⟨z,rfl⟩:∃ z:Nat,fn=z:=⟨fn.toNat,by omega⟩
  obtain⟨f,hf⟩:∃ f,fns[z]? = some f:=⟨_,List.getElem?_eq_getElem (by omega)⟩;obtain⟨b,o,ca,cc,ka,kc,rfl,_,c0,c1,c2,c3,c4,r1,r2⟩:=hp.at hf;obtain⟨hl1,hl2⟩:=h1 f (List.mem_of_getElem? hf);rw[kForm_at hf];have HPt:Hd (∀ W,Calls Tryz.prog 20 #[.int .i64 (z:Int),.int .i64 (fns.length:Int)] W fun e w'=>e = .returned (.bool true)∧w' = W):=fun W=>by
   have h:=isPlace_any (z:Int) fns.length W;rw[decide_eq_true hx] at h;exact h
  have HC:=zh (fun (W:World) (x:Ext w W)=>consts_any f.cs ca cc W (r1.ext x) hl1);have HO:=zh (fun (W:World) (x:Ext w W)=>operands_any fns f _ ca ka pc cc kc m W (hp.ext x) (r2.ext x) h0 hl1 hl2);have hz:z < fns.length:=by omega
  have q0:=fun ob=>(Ext.alloc w ob).cell c0;have q1:=fun ob=>(Ext.alloc w ob).cell c1;have q2:=fun ob=>(Ext.alloc w ob).cell c2;have q3:=fun ob=>(Ext.alloc w ob).cell c3;have q4:=fun ob=>(Ext.alloc w ob).cell c4;have HX0:Hd (∀ o1 o2:Obj,Ext w ((w.alloc o1).alloc o2)):=fun o1 o2=>(Ext.alloc _ _).trans (Ext.alloc _ _);clear hf hp h1 r1 r2 hx c0 c1 c2 c3 c4;generalize hA:f.cs.all okv=A at *;generalize hB:f.code.all (kStand fns f)=B at *;clear hA hB;obtain⟨FN,FP,FL,FC,FK⟩:=f;simp only[kfV,kpV] at q0 q1 q2 q3 q4 HC HO hl1 hl2 ⊢;generalize FC.length=CS at *;generalize FK.length=KS at *;generalize fns.length=NP at *;have hcase:(kPl FP 9=false∧FP < 0)∨(kPl FP 9=false∧0≤FP∧8 < FP)∨(kPl FP 9=true∧0≤FP∧FP≤8):=by
   rcases (show FP < 0∨(0≤FP∧8 < FP)∨(0≤FP∧FP≤8) by omega) with h | h | h
   ·exact Or.inl ⟨decide_eq_false (by omega),h⟩
   ·exact Or.inr (Or.inl ⟨decide_eq_false (by omega),h⟩)
   ·exact Or.inr (Or.inr ⟨decide_eq_true (by omega),h⟩)
  rcases hcase with⟨e1,g1⟩ | ⟨e1,g1,g2⟩ | ⟨e1,g1,g2⟩
  ·rw[e1,Bool.false_and]
   clear e1
   go_enter Tryz.func50,Tryz.ntmps50
   go_wp2_with (go_at_call 20;refine Calls.mono (zu HPt _) ?_;rintro e w1 ⟨rfl,hw⟩;obtain rfl:=hw.symm)
   go_ret;exact⟨rfl,zu HX0 _ _⟩
  ·rw[e1,Bool.false_and]
   clear e1
   go_enter Tryz.func50,Tryz.ntmps50
   go_wp2_with (go_at_call 20;refine Calls.mono (zu HPt _) ?_;rintro e w1 ⟨rfl,hw⟩;obtain rfl:=hw.symm)
   go_ret;exact⟨rfl,zu HX0 _ _⟩
  rw[e1,Bool.true_and];clear e1;by_cases g3:FP≤FL
  case neg =>
   rw[decide_eq_false g3,Bool.false_and]
   go_enter Tryz.func50,Tryz.ntmps50
   go_wp2_with (go_at_call 20;refine Calls.mono (zu HPt _) ?_;rintro e w1 ⟨rfl,hw⟩;obtain rfl:=hw.symm)
   go_ret;exact⟨rfl,zu HX0 _ _⟩
  rw[decide_eq_true g3,Bool.true_and];by_cases g4:FL≤64
  case neg =>
   rw[decide_eq_false g4,Bool.false_and]
   go_enter Tryz.func50,Tryz.ntmps50
   go_wp2_with (go_at_call 20;refine Calls.mono (zu HPt _) ?_;rintro e w1 ⟨rfl,hw⟩;obtain rfl:=hw.symm)
   go_ret;exact⟨rfl,zu HX0 _ _⟩
  rw[decide_eq_true g4,Bool.true_and];by_cases g5:KS=0
  ·rw[decide_eq_false (by omega),Bool.false_and]
   subst g5
   go_enter Tryz.func50,Tryz.ntmps50
   go_wp2_with (go_at_call 20;refine Calls.mono (zu HPt _) ?_;rintro e w1 ⟨rfl,hw⟩;obtain rfl:=hw.symm)
   go_ret;exact⟨rfl,zu HX0 _ _⟩
  have g5':((KS:Int) == 0)=false:=by rw[beq_eq_false_iff_ne];omega
  by_cases g6:KS≤1000
  case neg =>
   rw[decide_eq_false (by omega),Bool.false_and];clear g5
   go_enter Tryz.func50,Tryz.ntmps50
   go_wp2_with (go_at_call 20;refine Calls.mono (zu HPt _) ?_;rintro e w1 ⟨rfl,hw⟩;obtain rfl:=hw.symm)
   go_ret;exact⟨rfl,zu HX0 _ _⟩
  rw[decide_eq_true (by omega),Bool.true_and];clear g5;cases A with
  | false =>
   rw[Bool.false_and]
   go_enter Tryz.func50,Tryz.ntmps50
   go_wp2_with (first
    | (go_at_call 20;refine Calls.mono (zu HPt _) ?_;rintro e w1 ⟨rfl,hw⟩;obtain rfl:=hw.symm)
    | (go_at_call 82;refine Calls.mono (zu HC _ (zu HX0 _ _)) ?_;rintro e w1 ⟨rfl,hw⟩;have X1:=zh ((zu HX0 _ _).trans hw);clear hw))
   go_ret;exact⟨rfl,zu X1⟩
  | true =>
   rw[Bool.true_and]
   go_enter Tryz.func50,Tryz.ntmps50
   go_wp2_with (first
    | (go_at_call 20;refine Calls.mono (zu HPt _) ?_;rintro e w1 ⟨rfl,hw⟩;obtain rfl:=hw.symm)
    | (go_at_call 82;refine Calls.mono (zu HC _ (zu HX0 _ _)) ?_;rintro e w1 ⟨rfl,hw⟩;have X1:=zh ((zu HX0 _ _).trans hw);have f0:=hw.box 0 rfl;have f1:=hw.box 1 rfl;have f2:=hw.box 2 rfl;have f3:=hw.box 3 rfl;have f4:=hw.box 4 rfl;have k0:=hw.cell ((Ext.alloc _ _).cell (cell_box w _ _ 0 rfl));have k1:=hw.cell ((Ext.alloc _ _).cell (cell_box w _ _ 1 rfl));simp only[heap_alloc_size] at f0 f1 f2 f3 f4;clear hw)
    | (go_at_call 83;refine Calls.mono (zu HO w1 (zu X1)) ?_;rintro e w2 ⟨rfl,hw⟩;have X2:=zh ((zu X1).trans hw);clear hw))
   go_ret;exact⟨rfl,zu X2⟩
 ·rw[kForm_out hx]
  have HPt:Hd (∀ W,Calls Tryz.prog 20 #[.int .i64 fn,.int .i64 (fns.length:Int)] W fun e w'=>e = .returned (.bool false)∧w' = W):=fun W=>by
   have h:=isPlace_any fn fns.length W;rw[decide_eq_false hx] at h;exact h
  clear hx hp h1;generalize fns.length=NP at *
  go_enter Tryz.func50,Tryz.ntmps50
  go_wp2_with (go_at_call 20;refine Calls.mono (zu HPt _) ?_;rintro e w1 ⟨rfl,hw⟩;obtain rfl:=hw.symm)
  go_ret;exact⟨rfl,Ext.alloc _ _⟩
end V
namespace V
def kHgt (fns:List KF) (fn:Int) (K:Nat):Option (List Int × Int) :=
 if kForm fns fn then (match fns[fn.toNat]? with
  | none=>none
  | some f=>match kHts f.code K with
   | none=>none
   | some none=>some ([],13)
   | some (some hs)=>match kTicked f.code hs K with
    | none=>none
    | some t=>if t then some (hs,0) else some ([],14))
 else some ([],3)
def HgR (w:World) (q:List Int × Int) (e:Ending) (w':World):Prop :=
 ∃ ha hc,e = .returned (.tuple #[.slice ha q.1.length hc,.int .i64 q.2])∧RepZ w' (Fr2 w w') ha q.1∧(∀ x ∈ q.1,-1≤x∧x≤64)∧Ext w w'
def KfB (fns:List KF):Prop:=∀ f ∈ fns,f.cs.length≤1000000∧f.code.length≤1000000∧KBd f.code
theorem kLed_ge {i:KI} {j:Nat} (h:i.op=7∨i.op=8→0≤i.a):∀ x ∈ kLed i (j:Int),0≤x:=by
 intro x hx;unfold kLed kBoth at hx
 split at hx
 ·simp at hx
 ·split at hx
  ·rename_i h7
   have:=h (Or.inl h7);simp at hx;omega
  ·split at hx
   ·rename_i h8
    have:=h (Or.inr h8)
    split at hx
    ·simp at hx;omega
    ·split at hx
     ·simp at hx;omega
     ·simp at hx;omega
   ·simp at hx;omega
theorem kForm_nb {fns:List KF} {j:Nat} {f:KF} (h:fns[j]? = some f) (hf:kForm fns (j:Int)=true):KNb f.code:=by
 rw[kForm_at h] at hf;simp only[Bool.and_eq_true] at hf;obtain⟨_,_,_,_,_,hs⟩:=hf;rw[List.all_eq_true] at hs;intro k x hx;unfold kNext at hx;rw[if_neg (by omega),show ((k:Int)).toNat=k by omega] at hx;cases hi:f.code[k]? with
 | none=>rw[hi] at hx;simp at hx
 | some i =>
  rw[hi] at hx;refine kLed_ge (fun h78 => ?_) x hx;have:=hs i (List.mem_of_getElem? hi);unfold kStand at this;rw[if_neg (by omega)] at this;simp only[Bool.and_eq_true] at this;have hm:=this.2;unfold kMay at hm;rw[if_neg (by omega),if_neg (by omega),if_pos h78] at hm;have:=of_decide_eq_true hm;exact this.1
theorem heights_w (fns:List KF) (fn:Int) (pa:Option Addr) (pc:Nat) (m:Int) (K:Nat) (q:List Int × Int) (w:World) (hp:RepP w (In w) pa fns) (h0:fns.length≤1000000) (h1:KfB fns) (hK:K≤1000000) (hq:kHgt fns fn K=some q) :
  Calls Tryz.prog 21 #[kpV pa fns.length pc m,.int .i64 fn] w (HgR w q):=by
 have HF:=zh (fun (W:World) (x:Ext w W)=>hasForm_any fns fn pa pc m W (hp.ext x) h0 (fun f hf=>⟨(h1 f hf).1,(h1 f hf).2.1⟩));have HX0:Hd (∀ o1:Obj,Ext w (w.alloc o1)):=fun o1=>Ext.alloc _ _;unfold kHgt at hq;cases hf:kForm fns fn with
 | false =>
  rw[hf] at HF hq;rw[if_neg (by decide)] at hq;injection hq with hq;subst hq;clear hp h1;generalize fns.length=NP at *
  go_enter Tryz.func21,Tryz.ntmps21
  go_wp2_with (go_at_call 50;refine Calls.mono (zu HF _ (zu HX0 _)) ?_;rintro e w1 ⟨rfl,hw⟩;have X1:=zh ((zu HX0 _).trans hw);clear hw)
  exact bodyPost_ret (v:=.tuple #[.slice none 0 0,.int .i64 3]) (by simp[results,Tryz.results21,go_sem]) rfl ⟨none,0,rfl,Or.inl rfl,by simp,zu X1⟩
 | true =>
  rw[hf,if_pos rfl] at hq;have hx:0≤fn∧fn < (fns.length:Int):=Decidable.byContradiction fun h=>by rw[kForm_out h] at hf;cases hf
  obtain⟨z,rfl⟩:∃ z:Nat,fn=z:=⟨fn.toNat,by omega⟩;obtain⟨f,hg⟩:∃ f,fns[z]? = some f:=⟨_,List.getElem?_eq_getElem (by omega)⟩;rw[show ((z:Int)).toNat=z by omega,hg] at hq;simp only at hq;rw[hf] at HF;obtain⟨b,o,ca,cc,ka,kc,rfl,_,c0,c1,c2,c3,c4,r1,r2⟩:=hp.at hg;obtain⟨hl1,hl2,hl3⟩:=h1 f (List.mem_of_getElem? hg);have hnb:=kForm_nb hg hf;have hz:z < fns.length:=by omega
  have HC4:Hd (∀ W,Ext w W→W.cell? ⟨b,o+z * 5+4,none⟩=some (.slice ka f.code.length kc)):=fun W x=>x.cell c4;cases hh:kHts f.code K with
  | none=>rw[hh] at hq;cases hq
  | some hr =>
  rw[hh] at hq;have HH:=zh (fun (W:World) (x:Ext w W)=>heightsOf_w f.code ka kc K hr W (r2.ext x) hl3 hnb hl2 (by omega) hh);have HT:=zh (fun (W:World) (x:Ext w W) (hs:List Int) (ha:Option Addr) (hcap:Nat) (r:Bool) (hh:RepZ W (In W) ha hs) (hl:hs.length=f.code.length)=>ticked_w f.code hs ka ha kc hcap K r W (r2.ext x) hh hl hl2 hK);have HL:Hd (∀ hs:List Int,hs.length=f.code.length→hs.length=f.code.length):=fun _ h=>h;clear hg hf hp h1 r1 r2 hx c0 c1 c2 c3 c4 hl3 hnb hh;cases hr with
  | none =>
   simp only at hq;injection hq with hq;subst hq;generalize fns.length=NP at *;generalize f.code.length=KS at *
   go_enter Tryz.func21,Tryz.ntmps21
   go_wp2_with (first
    | (go_at_call 50;refine Calls.mono (zu HF _ (zu HX0 _)) ?_;rintro e w1 ⟨rfl,hw⟩;have X1:=zh ((zu HX0 _).trans hw);have k0:=hw.box 0 rfl;have k1:=hw.box 1 rfl;have d4:=zu HC4 w1 (zu X1);clear hw)
    | (go_at_call 51;refine Calls.mono (zu HH w1 (zu X1)) ?_;rintro e w2 ⟨rfl,hw⟩;have X2:=zh ((zu X1).trans hw);clear hw))
   exact bodyPost_ret (v:=.tuple #[.slice none 0 0,.int .i64 13]) (by simp[results,Tryz.results21,go_sem]) rfl ⟨none,0,rfl,Or.inl rfl,by simp,zu X2⟩
  | some hs =>
   simp only at hq;cases ht:kTicked f.code hs K with
   | none=>rw[ht] at hq;cases hq
   | some t =>
   rw[ht] at hq;simp only at hq;have HT2:Hd (∀ (W:World) (x:Ext w W) (ha:Option Addr) (hcap:Nat) (hh:RepZ W (In W) ha hs) (hl:hs.length=f.code.length),Calls Tryz.prog 52 #[.slice ka f.code.length kc,.slice ha f.code.length hcap] W fun e w'=>e = .returned (.bool t)∧Ext W w'):=fun W x ha hcap hh hl=>zu HT W x hs ha hcap t hh hl ht;clear HT ht;generalize fns.length=NP at *;generalize hKS:f.code.length=KS at *;cases t with
   | false =>
    rw[if_neg (by decide)] at hq;injection hq with hq;subst hq
    go_enter Tryz.func21,Tryz.ntmps21
    go_wp2_with (first
     | (go_at_call 50;refine Calls.mono (zu HF _ (zu HX0 _)) ?_;rintro e w1 ⟨rfl,hw⟩;have X1:=zh ((zu HX0 _).trans hw);have k0:=hw.box 0 rfl;have k1:=hw.box 1 rfl;have d4:=zu HC4 w1 (zu X1);clear hw)
     | (go_at_call 51;refine Calls.mono (zu HH w1 (zu X1)) ?_;rintro e w2 ⟨hl,hb,rfl,hz2,hw⟩;have X2:=zh ((zu X1).trans hw);have Z2:=zh hz2;have L2:=zh hl;clear hw hz2 hl hb)
     | (go_at_call 52;refine Calls.mono (zu HT2 w2 (zu X2) _ _ (zu Z2).inn (zu L2)) ?_;rintro e w3 ⟨rfl,hw⟩;have X3:=zh ((zu X2).trans hw);clear hw))
    exact bodyPost_ret (v:=.tuple #[.slice none 0 0,.int .i64 14]) (by simp[results,Tryz.results21,go_sem]) rfl ⟨none,0,rfl,Or.inl rfl,by simp,zu X3⟩
   | true =>
    rw[if_pos rfl] at hq;injection hq with hq;subst hq
    go_enter Tryz.func21,Tryz.ntmps21
    go_wp2_with (first
     | (go_at_call 50;refine Calls.mono (zu HF _ (zu HX0 _)) ?_;rintro e w1 ⟨rfl,hw⟩;have X1:=zh ((zu HX0 _).trans hw);have k0:=hw.box 0 rfl;have k1:=hw.box 1 rfl;have d4:=zu HC4 w1 (zu X1);clear hw)
     | (go_at_call 51;refine Calls.mono (zu HH w1 (zu X1)) ?_;rintro e w2 ⟨hl,hb,rfl,hz2,hw⟩;have X2:=zh ((zu X1).trans hw);have Z2:=zh hz2;have Y2:=zh (hz2.up (zu X1));have L2:=zh hl;have B2:=zh hb;clear hw hz2 hl hb)
     | (go_at_call 52;refine Calls.mono (zu HT2 w2 (zu X2) _ _ (zu Z2).inn (zu L2)) ?_;rintro e w3 ⟨rfl,hw⟩;have X3:=zh ((zu X2).trans hw);have Y3:=zh ((zu Y2).onn hw);clear hw))
    refine bodyPost_ret (v:=.tuple #[.slice (some ⟨w1.heap.size,0,none⟩) KS KS,.int .i64 0]) (by simp[results,Tryz.results21,go_sem]) rfl ⟨_,KS,?_,zu Y3,zu B2,zu X3⟩;have:=zu L2;simp only;rw[this]
end V
namespace V
theorem kCome_f (n:Nat) (st:KW) (to h:Int) (hf:st.f=true):(kCome n st to h).f=true:=by
 unfold kCome
 split
 ·rfl
 ·split
  ·exact hf
  ·split
   ·exact hf
   ·split
    ·exact hf
    ·rfl
theorem kComes_f (n:Nat) (h:Int):∀ (l:List Int) (st:KW),st.f=true→(kComes n h l st).f=true:=by
 intro l
 induction l with
 | nil=>intro st hf;exact hf
 | cons x l ih=>intro st hf;rw[kComes];exact ih _ (kCome_f n st x h hf)
structure CmOk (st st2:KW):Prop where
 len:st2.hs.length=st.hs.length
 keep:∀ (j:Nat) (x:Int),st.hs[j]? = some x→x≠-1→st2.hs[j]? = some x
 new:∀ (j:Nat) (x:Int),st2.hs[j]? = some x→x≠-1→st.hs[j]? = some x∨j ∈ st2.op
 op:∀ j ∈ st.op,j ∈ st2.op
theorem CmOk.refl (st:KW):CmOk st st:=⟨rfl,fun _ _ h _=>h,fun _ _ h _=>Or.inl h,fun _ h=>h⟩
theorem CmOk.trans {a b c:KW} (h:CmOk a b) (k:CmOk b c):CmOk a c:=⟨k.len.trans h.len,fun j x h1 h2=>k.keep j x (h.keep j x h1 h2) h2,fun j x h1 h2=>by
 rcases k.new j x h1 h2 with h3 | h3
 ·rcases h.new j x h3 h2 with h4 | h4
  ·exact Or.inl h4
  ·exact Or.inr (k.op j h4)
 ·exact Or.inr h3,fun j hj=>k.op j (h.op j hj)⟩
theorem kCome_ok {n:Nat} {st:KW} {to h:Int} (hl:st.hs.length=n) (h0:0≤to) (hh:h≠-1) (hf:(kCome n st to h).f=false):CmOk st (kCome n st to h)∧(kCome n st to h).hs[to.toNat]? = some h:=by
 unfold kCome at hf ⊢
 split at hf
 ·cases hf
 ·rename_i h1
  rw[if_neg h1];cases hx:st.hs[to.toNat]? with
  | none =>
   have:=List.getElem?_eq_none_iff.1 hx;omega
  | some x =>
   rw[hx] at hf;simp only at hf ⊢;have hlt:=(List.getElem?_eq_some_iff.1 hx).1;by_cases e1:x = -1
   ·rw[if_pos e1]
    refine⟨⟨by simp,fun j y hj hy => ?_,fun j y hj hy => ?_,fun j hj=>List.mem_cons_of_mem _ hj⟩,?_⟩
    ·show (st.hs.set to.toNat h)[j]? = some y
     by_cases ej:to.toNat=j
     ·subst ej;rw[hx] at hj;injection hj with hj;omega
     ·rw[List.getElem?_set_ne ej];exact hj
    ·have hj:(st.hs.set to.toNat h)[j]? = some y:=hj
     by_cases ej:to.toNat=j
     ·subst ej;exact Or.inr (List.mem_cons_self ..)
     ·rw[List.getElem?_set_ne ej] at hj;exact Or.inl hj
    ·show (st.hs.set to.toNat h)[to.toNat]? = some h
     rw[List.getElem?_set_self hlt]
   ·rw[if_neg e1] at hf ⊢
    by_cases e2:x=h
    ·rw[if_pos e2];subst e2;exact⟨CmOk.refl _,hx⟩
    ·rw[if_neg e2] at hf;cases hf
theorem kComes_ok {n:Nat} {h:Int} (hh:h≠-1):∀ (l:List Int) (st:KW),st.hs.length=n→(∀ x ∈ l,0≤x)→(kComes n h l st).f=false→CmOk st (kComes n h l st)∧∀ x ∈ l,(kComes n h l st).hs[x.toNat]? = some h:=by
 intro l
 induction l with
 | nil=>intro st _ _ _;exact⟨CmOk.refl _,fun x hx=>by cases hx⟩
 | cons y l ih =>
  intro st hl h0 hf;rw[kComes] at hf ⊢;have hf1:(kCome n st y h).f=false:=by
   cases e:(kCome n st y h).f with
   | false=>rfl
   | true=>rw[kComes_f n h l _ e] at hf;cases hf
  obtain⟨c1,c2⟩:=kCome_ok hl (h0 y (List.mem_cons_self ..)) hh hf1;obtain⟨d1,d2⟩:=ih (kCome n st y h) (c1.len.trans hl) (fun x hx=>h0 x (List.mem_cons_of_mem _ hx)) hf;refine⟨c1.trans d1,fun x hx => ?_⟩;rcases List.mem_cons.1 hx with rfl | hx
  ·exact d1.keep _ _ c2 hh
  ·exact d2 x hx
def KDone (code:List KI) (st:KW) (j:Nat) (x:Int):Prop:=∀ i,code[j]? = some i→0≤x - kPops i∧∀ to ∈ kNext code (j:Int),st.hs[to.toNat]? = some (x - kPops i+kPush i)
def KInv (code:List KI) (st:KW):Prop:=∀ (j:Nat) (x:Int),st.hs[j]? = some x→x≠-1→j ∈ st.op∨KDone code st j x
theorem KDone.on {code:List KI} {st st2:KW} {j:Nat} {x:Int} (h:KDone code st j x) (c:CmOk st st2):KDone code st2 j x:=fun i hi=>by
 obtain⟨h1,h2⟩:=h i hi;have:=kPush_ge i;exact⟨h1,fun to ht=>c.keep _ _ (h2 to ht) (by omega)⟩
theorem kLeave_inv {code:List KI} {hs:List Int} {r:List Nat} {j:Nat} (hl:hs.length=code.length) (hn:∀ (j:Nat),∀ x ∈ kNext code (j:Int),0≤x) (hI:KInv code ⟨hs,j :: r,false⟩) (hf:(kLeave code ⟨hs,r,false⟩ j).f=false):KInv code (kLeave code ⟨hs,r,false⟩ j)∧(kLeave code ⟨hs,r,false⟩ j).hs.length=code.length:=by
 unfold kLeave at hf ⊢;cases hi:code[j]? with
 | none =>
  rw[hi] at hf;refine⟨fun k x hk hx => ?_,hl⟩;rcases hI k x hk hx with h1 | h1
  ·rcases List.mem_cons.1 h1 with rfl | h1
   ·exact Or.inr (fun i h2=>by rw[hi] at h2;cases h2)
   ·exact Or.inl h1
  ·exact Or.inr h1
 | some i =>
  rw[hi] at hf;simp only at hf ⊢;cases hx:hs[j]? with
  | none =>
   rw[hx] at hf;refine⟨fun k x hk hx2 => ?_,hl⟩;rcases hI k x hk hx2 with h1 | h1
   ·rcases List.mem_cons.1 h1 with rfl | h1
    ·have hk:hs[k]? = some x:=hk
     rw[hx] at hk;cases hk
    ·exact Or.inl h1
   ·exact Or.inr h1
  | some x =>
   rw[hx] at hf;simp only at hf ⊢;by_cases h0:x - kPops i < 0
   ·rw[if_pos h0] at hf;cases hf
   ·rw[if_neg h0] at hf ⊢
    have hp:=kPush_ge i;obtain⟨c,d⟩:=kComes_ok (n:=code.length) (h:=x - kPops i+kPush i) (by omega) (kNext code (j:Int)) ⟨hs,r,false⟩ hl (hn j) hf;refine⟨fun k y hk hy => ?_,c.len.trans hl⟩;rcases c.new k y hk hy with h1 | h1
    ·rcases hI k y h1 hy with h2 | h2
     ·rcases List.mem_cons.1 h2 with rfl | h2
      ·have h1:hs[k]? = some y:=h1
       rw[hx] at h1;injection h1 with h1;subst h1;refine Or.inr (fun i2 hi2 => ?_);rw[hi] at hi2;injection hi2 with hi2;subst hi2;exact⟨by omega,d⟩
      ·exact Or.inl (c.op k h2)
     ·exact Or.inr (KDone.on (st:=⟨hs,r,false⟩) h2 c)
    ·exact Or.inl h1
theorem kRun_inv {code:List KI} (hn:∀ (j:Nat),∀ x ∈ kNext code (j:Int),0≤x):∀ (K:Nat) (st st2:KW),st.hs.length=code.length→KInv code st→kRun code K st=some st2→st2.f=false→(∀ (j:Nat) (x:Int),st2.hs[j]? = some x→x≠-1→KDone code st2 j x)∧st2.hs.length=code.length:=by
 intro K
 induction K with
 | zero=>intro st st2 _ _ h;cases h
 | succ K ih =>
  intro st st2 hl hI h hf;rw[kRun] at h;cases hsf:st.f with
  | true =>
   rw[hsf] at h;injection h with h;subst h;rw[hsf] at hf;cases hf
  | false =>
   rw[hsf,if_neg (by decide)] at h;obtain⟨hs,op,f⟩:=st;simp only at hsf hl;subst hsf;cases op with
   | nil =>
    simp only at h;injection h with h;subst h;refine⟨fun j x hj hx => ?_,hl⟩;rcases hI j x hj hx with h1 | h1
    ·cases h1
    ·exact h1
   | cons j r =>
    simp only at h;have hf2:(kLeave code ⟨hs,r,false⟩ j).f=false:=by
     cases e:(kLeave code ⟨hs,r,false⟩ j).f with
     | false=>rfl
     | true =>
      cases K with
      | zero=>cases h
      | succ K =>
       rw[kRun,e] at h;injection h with h;subst h;rw[e] at hf;cases hf
    obtain⟨i1,i2⟩:=kLeave_inv hl hn hI hf2;exact ih _ st2 i2 i1 h hf
theorem kHts_inv {code:List KI} {K:Nat} {hs:List Int} (hn:∀ (j:Nat),∀ x ∈ kNext code (j:Int),0≤x) (h:kHts code K=some (some hs)):hs.length=code.length∧∀ (j:Nat) (x:Int),hs[j]? = some x→x≠-1→∀ i,code[j]? = some i→0≤x - kPops i∧∀ to ∈ kNext code (j:Int),hs[to.toNat]? = some (x - kPops i+kPush i):=by
 unfold kHts at h;cases hr:kRun code K (kCome code.length ⟨List.replicate code.length (-1),[],false⟩ 0 0) with
 | none=>rw[hr] at h;cases h
 | some st =>
  rw[hr] at h;simp only at h;cases hf:st.f with
  | true=>rw[hf] at h;simp at h
  | false =>
   rw[hf] at h;simp at h;subst h;have hI:KInv code (kCome code.length ⟨List.replicate code.length (-1),[],false⟩ 0 0):=by
    intro j x hj hx;cases hcf:(kCome code.length ⟨List.replicate code.length (-1),[],false⟩ 0 0).f with
    | true =>
     cases K with
     | zero=>cases hr
     | succ K =>
      rw[kRun,hcf] at hr;injection hr with hr;rw[← hr,hcf] at hf;cases hf
    | false =>
     obtain⟨c,_⟩:=kCome_ok (n:=code.length) (st:=⟨List.replicate code.length (-1),[],false⟩) (to:=0) (h:=0) (by simp) (by omega) (by omega) hcf;rcases c.new j x hj hx with h1 | h1
     ·have:=List.getElem?_eq_some_iff.1 h1
      simp at this;omega
     ·exact Or.inl h1
   have hl:(kCome code.length ⟨List.replicate code.length (-1),[],false⟩ 0 0).hs.length=code.length:=by
    have:=(kCome_len code.length ⟨List.replicate code.length (-1),[],false⟩ 0 0).1
    simpa using this
   obtain⟨a1,a2⟩:=kRun_inv hn K _ st hl hI hr hf;exact⟨a2,fun j x hj hx i hi=>a1 j x hj hx i hi⟩
end V
namespace V
def kMost:List Int→Int→Int
 | [],n=>n
 | x :: r,n=>kMost r (if x < n then n else x)
def kVirt (fns:List KF) (fn:Int) (K:Nat):Option (Int × Int) :=
 match kHgt fns fn K with
 | none=>none
 | some q=>if q.2=0 then (match fns[fn.toNat]? with
  | none=>none
  | some f=>if 200 < f.lc+kMost q.1 0 then some (0,5) else some (f.lc+kMost q.1 0,0)) else some (0,q.2)
def kChkL (fns:List KF) (K:Nat):Nat→Nat→Option Int
 | 0,_=>some 0
 | m+1,j=>match kHgt fns (j:Int) K with
  | none=>none
  | some q=>if q.2=0 then kChkL fns K m (j+1) else some q.2
def kChk (fns:List KF) (m:Int) (K:Nat):Option Int :=
 if 16 < fns.length then some 3 else if kPl m fns.length then (match fns[m.toNat]? with
  | none=>none
  | some f=>if f.ps=0 then kChkL fns K fns.length 0 else some 3) else some 3
theorem kChkL_step (fns:List KF) (K:Nat) {n k:Nat} (hk:k < n):kChkL fns K (n - k) k=match kHgt fns (k:Int) K with
  | none=>none
  | some q=>if q.2=0 then kChkL fns K (n - (k+1)) (k+1) else some q.2:=by
 rw[show n - k=(n - (k+1))+1 by omega,kChkL]
theorem check_sw (fns:List KF) (pa:Option Addr) (pc:Nat) (m:Int) (K:Nat) (v:Int) (w:World) (hp:RepP w (In w) pa fns) (h0:fns.length≤1000000) (h1:KfB fns) (hK:K≤1000000) (hv:kChk fns m K=some v) :
  Calls Tryz.prog 10 #[kpV pa fns.length pc m] w fun e w'=>e = .returned (.int .i64 v)∧Ext w w':=by
 have HX0:Hd (∀ o1:Obj,Ext w (w.alloc o1)):=fun o1=>Ext.alloc _ _;have HH:=zh (fun (W:World) (x:Ext w W) (fn:Int) (q:List Int × Int) (hq:kHgt fns fn K=some q)=>heights_w fns fn pa pc m K q W (hp.ext x) h0 h1 hK hq);unfold kChk at hv;by_cases h16:16 < fns.length
 ·rw[if_pos h16] at hv
  injection hv with hv;subst hv;clear hp h1;generalize fns.length=NP at *
  go_enter Tryz.func10,Tryz.ntmps10
  go_wp2_with fail
  go_ret;exact⟨rfl,Ext.alloc _ _⟩
 ·rw[if_neg h16] at hv
  have HPt:=zh (fun W=>isPlace_any m fns.length W);by_cases hx:0≤m∧m < (fns.length:Int)
  ·rw[if_pos (show kPl m fns.length=true from decide_eq_true hx)] at hv
   rw[decide_eq_true hx] at HPt;obtain⟨z,rfl⟩:∃ z:Nat,m=z:=⟨m.toNat,by omega⟩;obtain⟨f,hg⟩:∃ f,fns[z]? = some f:=⟨_,List.getElem?_eq_getElem (by omega)⟩;rw[show ((z:Int)).toNat=z by omega,hg] at hv;simp only at hv;obtain⟨b,o,ca,cc,ka,kc,rfl,_,c0,c1,c2,c3,c4,r1,r2⟩:=hp.at hg;have q1:=fun ob=>(Ext.alloc w ob).cell c1;have hz:z < fns.length:=by omega
   clear c0 c1 c2 c3 c4 r1 r2 hg hp h1 hx;generalize f.ps=FP at *;by_cases hf:FP=0
   ·rw[if_pos hf] at hv
    subst hf;have HV:Hd (kChkL fns K (fns.length - 0) 0=some v):=hv;clear hv;generalize hN:fns.length=n at *
    go_enter Tryz.func10,Tryz.ntmps10
    go_wp2_with (go_at_call 20;refine Calls.mono (zu HPt _) ?_;rintro e w1 ⟨rfl,hw⟩;obtain rfl:=hw.symm)
    go_loopw [32] (fun t wr => ∃ (k:Nat),t = .int .i64 k∧k≤n∧Hd (kChkL fns K (n - k) k=some v)∧Hd (Ext (w.alloc (.cells #[.slice (some ⟨b,o,none⟩) n pc,.int .i64 (z:Int)] 25)) wr)) (fun t _=>n - (intOf t).toNat)
    case atStart=>exact⟨0,rfl,by omega,HV,Ext.refl _⟩
    case round =>
     clear HV;obtain⟨k,rfl,hk,hE,hX⟩:=hrel;have k0:=(zu hX).box 0 rfl;have k1:=(zu hX).box 1 rfl;have hXw:Hd (Ext w wr):=(zu HX0 _).trans (zu hX);by_cases hlt:k < n
     ·have hE2:=zu hE
      rw[kChkL_step fns K hlt] at hE2;cases hq:kHgt fns (k:Int) K with
      | none=>rw[hq] at hE2;cases hE2
      | some q =>
      rw[hq] at hE2;simp only at hE2;have HQ:=zh (zu HH wr (zu hXw) (k:Int) q hq);clear hq;obtain⟨hs,er⟩:=q;simp only at hE2;by_cases he:er=0
      ·rw[if_pos he] at hE2
       subst he;have HE2:=zh hE2;clear hE2
       go_wp2_with (go_at_call 21;refine Calls.mono (zu HQ) ?_;rintro e w1 ⟨ha,hc,rfl,hz1,hb,hw⟩;have X1:=zh ((zu hX).trans hw);clear hw hz1 hb)
       go_roundw
       case rel=>exact⟨k+1,by go_num,by omega,HE2,X1⟩
       case measure=>simp[intOf];omega
      ·rw[if_neg he] at hE2
       injection hE2 with hE2;have HE2:=zh hE2;have heb:(er != 0)=true:=by simp[he]
       clear hE2 he
       go_wp2_with (go_at_call 21;refine Calls.mono (zu HQ) ?_;rintro e w1 ⟨ha,hc,rfl,hz1,hb,hw⟩;have X1:=zh ((zu hXw).trans hw);clear hw hz1 hb)
       rw[← zu HE2];go_ret;exact⟨rfl,zu X1⟩
     ·obtain rfl:k=n:=by omega
      have HE2:Hd (v=0):=by
       have h:=zu hE;rw[Nat.sub_self,kChkL] at h;injection h with h;exact h.symm
      go_wp2_with fail
      rw[zu HE2];go_ret;exact⟨rfl,zu hXw⟩
   ·rw[if_neg hf] at hv
    injection hv with hv;subst hv;have hfb:(FP != 0)=true:=by simp[hf]
    clear hf;generalize fns.length=n at *
    go_enter Tryz.func10,Tryz.ntmps10
    go_wp2_with (go_at_call 20;refine Calls.mono (zu HPt _) ?_;rintro e w1 ⟨rfl,hw⟩;obtain rfl:=hw.symm)
    go_ret;exact⟨rfl,Ext.alloc _ _⟩
  ·rw[if_neg (by rw[show kPl m fns.length=false from decide_eq_false hx];decide)] at hv
   rw[decide_eq_false hx] at HPt;injection hv with hv;subst hv;clear hp h1 hx;generalize fns.length=n at *
   go_enter Tryz.func10,Tryz.ntmps10
   go_wp2_with (go_at_call 20;refine Calls.mono (zu HPt _) ?_;rintro e w1 ⟨rfl,hw⟩;obtain rfl:=hw.symm)
   go_ret;exact⟨rfl,Ext.alloc _ _⟩
end V
end Go.Proofs.YtjnpehohialmbaaGreat
