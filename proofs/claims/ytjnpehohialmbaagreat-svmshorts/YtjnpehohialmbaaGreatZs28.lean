/- What the program tells of a value that a world holds: how great it is,whether it is well formed,sound,true;the value that it is taken for. -/
import Derived.Handy
import Derived.Deep.RegionLawGrows
import Derived.OwnWalk
import Derived.Deep.LoopGhost
import Derived.Test.YtjnpehohialmbaaGreatZs27
set_option linter.unusedSimpArgs false
set_option maxRecDepth 10000
set_option linter.unusedVariables false
namespace Go.Proofs.YtjnpehohialmbaaGreat
open Go.RowKit
namespace V
theorem ret_i64 {a b:Int} (h:a=b):Ending.returned (.int .i64 a) = .returned (.int .i64 b):=by rw[h]
theorem beqd (a b:Int):(a == b)=decide (a=b):=rfl
theorem castz (a:Nat):((a:Int)=0)=(a=0):=by simp
theorem size_leaf (k n:Int) (re im:Nat) (s:ByteArray) (sl:Value) (d:Nat) (w:World) (hk:k≠4) (hs:s.size≤140737488355328) :
  Calls Tryz.prog 148 #[.agg #[.int .i64 k,.int .i64 n,.complex .f64 re im,.string s,sl],.int .i64 d] w fun e w'=>e = .returned (.int .i64 (if k=3 then min (1+s.size) 1001 else 1:Nat))∧Ext w w':=by
 by_cases h3:k=3
 ·subst h3
  go_enter Tryz.func148,Tryz.ntmps148
  go_wp2_with fail
  all_goals
   go_ret;refine⟨ret_i64 ?_,Ext.alloc _ _⟩;omega
 ·go_enter Tryz.func148,Tryz.ntmps148
  go_wp2_with fail
  go_ret;refine⟨ret_i64 ?_,Ext.alloc _ _⟩;simp[h3]
theorem size_any:∀ (p:PV) (v:Value) (d:Nat) (w:World),d≤24→Rep w (In w) p v →
  Calls Tryz.prog 148 #[v,.int .i64 d] w fun e w'=>e = .returned (.int .i64 (sz p d))∧Ext w w':=by
 refine PV.byList ?_;intro k n re im s l ih v d w hd hr;rw[Rep] at hr;obtain⟨a,cap,rfl,hb,hl⟩:=hr;by_cases hk:k=4
 ·subst hk
  by_cases h24:d=24
  ·subst h24
   go_enter Tryz.func148,Tryz.ntmps148
   go_wp2_with fail
   go_ret;refine⟨ret_i64 ?_,Ext.alloc _ _⟩;simp[sz]
  ·have h25:((d:Int) == 24)=false:=by simp;omega
   have h1:=hb.bl;have h2:=hb.bc;have H:=zh hl;have I:=zh ih;clear hl ih hb
   go_enter Tryz.func148,Tryz.ntmps148
   go_wp2_with fail
   go_loopw [5,24] (fun x i wr => ∃ j acc:Nat,i = .int .i64 j∧x = .int .i64 acc∧j≤l.length∧acc≤1000∧Hd (szL (l.drop j) (d+1) acc=szL l (d+1) 1)∧Ext w wr) (fun _ i _=>l.length - (intOf i).toNat)
   case atStart=>exact⟨0,1,rfl,rfl,by omega,by omega,rfl,Ext.alloc _ _⟩
   case round =>
    obtain⟨j,acc,rfl,rfl,hj,hacc,hS,hE⟩:=hrel;by_cases hlt:j < l.length
    ·obtain⟨x,hx⟩:∃ x,l[j]? = some x:=⟨l[j],List.getElem?_eq_getElem hlt⟩
     obtain⟨b,off,a',cap',rfl,hEl⟩:=RepL.get (RepL.ext (zu H) hE) j x hx;have h0:=hEl.c0;have h1:=hEl.c1;have h2:=hEl.c2;have h3:=hEl.c3;have h4:=hEl.c4;obtain⟨m,hm⟩:∃ m,m=sz x (d+1):=⟨_,rfl⟩;have hm1:m≤1001:=by rw[hm];exact sz_le _ _
     have hc:=zu I x (List.mem_of_getElem? hx) _ (d+1) (wr.alloc (.cells #[.int .i64 x.k,.int .i64 x.n,.complex .f64 x.re x.im,.string x.s,.slice a' x.l.length cap'] 32)) (by omega) (hEl.rep.ext (Ext.alloc _ _));rw[← hm] at hc;have C:=zh hc;have hst:=szL_step hx (d+1) acc;rw[← hm,zu hS] at hst;have HS:=zh hst;have HE:=zh (hE.trans (Ext.alloc wr (.cells #[.int .i64 x.k,.int .i64 x.n,.complex .f64 x.re x.im,.string x.s,.slice a' x.l.length cap'] 32)));clear hEl hx hE hc hm hst hS
     go_wp2_with (go_at_call 148;refine Calls.mono (zu C) ?_;rintro e w' ⟨rfl,hw⟩)
     ·go_ret
      refine⟨ret_i64 ?_,(zu HE).trans hw⟩;have hst:=zu HS;rw[if_pos (by omega)] at hst;simp[sz,h24,hst]
     ·go_roundw
      case rel =>
       have hst:=zu HS;rw[if_neg (by omega)] at hst;exact⟨j+1,acc+m,by go_num,by go_num,by omega,by omega,hst.symm,(zu HE).trans hw⟩
      case measure=>simp[intOf];omega
    ·have:j=l.length:=by omega
     subst this
     go_wp2_with fail
     go_ret;refine⟨ret_i64 ?_,hE⟩;have:=zu hS;simp[szL] at this;simp[sz,h24,this]
 ·refine(size_leaf k n re im s _ d w hk hb.bs).mono ?_
  rintro e w' ⟨rfl,h⟩;refine⟨ret_i64 ?_,h⟩;rw[sz];simp[hk]
def unused (k n:Int) (re im:Nat) (s:ByteArray) (len:Nat):Bool :=
 decide ((k=1∨n=0)∧(k=2∨(FloatKind.f64.format.order re 0=some Ordering.eq∧FloatKind.f64.format.order im 0=some Ordering.eq))∧(k=3∨s.toList = [])∧(k=4∨len=0))
theorem unused_any (k n:Int) (re im:Nat) (s:ByteArray) (a:Option Addr) (len cap:Nat) (w:World) :
  Calls Tryz.prog 150 #[.agg #[.int .i64 k,.int .i64 n,.complex .f64 re im,.string s,.slice a len cap]] w fun e w'=>e = .returned (.bool (unused k n re im s len))∧Ext w w':=by
 obtain⟨u,hu⟩:∃ u,u=unused k n re im s len:=⟨_,rfl⟩;rw[← hu];have U:=zh hu;clear hu
 go_enter Tryz.func150,Tryz.ntmps150
 go_wp2_with fail
 all_goals
  go_ret;refine⟨ret_bool ?_,Ext.alloc _ _⟩;rw[zu U,unused];simp[*,beqd,castz]
mutual
/-- A value has only what its kind has,and so has all that stands in it. -/
def wfv:PV→Bool
 | .mk k n re im s l=>decide (0≤k) && decide (k≤4) && (decide (k≠2) || okB re im) && unused k n re im s l.length && wfvL l
def wfvL:List PV→Bool
 | []=>true
 | x :: xs=>wfv x && wfvL xs
end
theorem wfvL_step {l:List PV} {j:Nat} {x:PV} (h:l[j]? = some x):wfvL (l.drop j)=(wfv x && wfvL (l.drop (j+1))):=by
 obtain⟨hj,rfl⟩:=List.getElem?_eq_some_iff.1 h;rw[List.drop_eq_getElem_cons hj,wfvL]
theorem formed_any:∀ (p:PV) (v:Value) (w:World),Rep w (In w) p v →
  Calls Tryz.prog 122 #[v] w fun e w'=>e = .returned (.bool (wfv p))∧Ext w w':=by
 refine PV.byList ?_;intro k n re im s l ih v w hr;rw[Rep] at hr;obtain⟨a,cap,rfl,hb,hl⟩:=hr;have h1:=hb.bl;have h2:=hb.bc;have hre:Wd re:=hb.bre;have him:Wd im:=hb.bim;have H:=zh hl;have I:=zh ih;clear hl ih hb;have hok:=fun w=>ok_any re im w hre him;have hun:=fun w=>unused_any k n re im s a l.length cap w;rcases (show k < 0∨4 < k∨(0≤k∧k≤4) by omega) with hk | hk | ⟨hk0,hk4⟩
 ·go_enter Tryz.func122,Tryz.ntmps122
  go_wp2_with fail
  go_ret;exact⟨ret_bool (by rw[wfv];simp;omega),Ext.alloc _ _⟩
 ·go_enter Tryz.func122,Tryz.ntmps122
  go_wp2_with fail
  go_ret;exact⟨ret_bool (by rw[wfv];simp;omega),Ext.alloc _ _⟩
 ·cases hO:(decide (k≠2) || okB re im)
  ·have hk2:k=2:=by simp at hO;exact hO.1
   have ho:okB re im=false:=by simp at hO;exact hO.2
   clear hO;subst hk2;rw[ho] at hok;have HO:=zh hok;clear hok
   go_enter Tryz.func122,Tryz.ntmps122
   go_wp2_with (go_at_call 149;refine Calls.mono (zu HO _) ?_;rintro e w' ⟨rfl,rfl⟩)
   go_ret;exact⟨ret_bool (by rw[wfv];simp[ho]),Ext.alloc _ _⟩
  ·have hO2:k=2∧okB re im=true∨k≠2:=by
    simp at hO;rcases hO with h | h
    ·exact Or.inr h
    ·by_cases hk2:k=2
     ·exact Or.inl ⟨hk2,h⟩
     ·exact Or.inr hk2
   have HO:=zh hO;clear hO;cases hU:unused k n re im s l.length
   ·rw[hU] at hun
    have HN:=zh hun;have HU:=zh hU;clear hun hU;rcases hO2 with⟨hk2,ho⟩ | hk2
    all_goals
     first | rw[ho] at hok | skip
     first | subst hk2 | skip
     have HK:=zh hok
     first | clear ho | skip
     clear hok
     go_enter Tryz.func122,Tryz.ntmps122
     go_wp2_with (first | (go_at_call 149;refine Calls.mono (zu HK _) ?_;rintro e w' ⟨rfl,rfl⟩) | (go_at_call 150;refine Calls.mono (zu HN _) ?_;rintro e w' ⟨rfl,hw⟩))
     go_ret;exact⟨ret_bool (by rw[wfv,zu HU];simp),(Ext.alloc _ _).trans hw⟩
   ·rw[hU] at hun
    have HN:=zh hun;have HU:=zh hU;clear hun hU;rcases hO2 with⟨hk2,ho⟩ | hk2
    all_goals
     first | rw[ho] at hok | skip
     first | subst hk2 | skip
     have HK:=zh hok
     first | clear ho | skip
     clear hok
     go_enter Tryz.func122,Tryz.ntmps122
     go_wp2_with (first | (go_at_call 149;refine Calls.mono (zu HK _) ?_;rintro e w' ⟨rfl,rfl⟩) | (go_at_call 150;refine Calls.mono (zu HN _) ?_;rintro e w1 ⟨rfl,hw⟩;have hc4:=hw.box 4 rfl))
     have hw0:=(Ext.alloc _ _).trans hw;clear hw
     go_loopw [28] (fun i wr => ∃ j:Nat,i = .int .i64 j∧j≤l.length∧Hd (wfvL (l.drop j)=wfvL l)∧Ext w wr) (fun i _=>l.length - (intOf i).toNat)
     case atStart=>exact⟨0,rfl,by omega,rfl,hw0⟩
     case round =>
      clear hc4 hw0;obtain⟨j,rfl,hj,hS,hE⟩:=hrel;by_cases hlt:j < l.length
      ·obtain⟨x,hx⟩:∃ x,l[j]? = some x:=⟨l[j],List.getElem?_eq_getElem hlt⟩
       obtain⟨b,off,a',cap',rfl,hEl⟩:=RepL.get (RepL.ext (zu H) hE) j x hx;have h0:=hEl.c0;have h1:=hEl.c1;have h2:=hEl.c2;have h3:=hEl.c3;have h4:=hEl.c4;have hc:=zu I x (List.mem_of_getElem? hx) _ (wr.alloc (.cells #[.int .i64 x.k,.int .i64 x.n,.complex .f64 x.re x.im,.string x.s,.slice a' x.l.length cap'] 32)) (hEl.rep.ext (Ext.alloc _ _));have hst:=wfvL_step hx;rw[zu hS] at hst;have HE:=zh (hE.trans (Ext.alloc wr (.cells #[.int .i64 x.k,.int .i64 x.n,.complex .f64 x.re x.im,.string x.s,.slice a' x.l.length cap'] 32)));clear hEl hx hE hS;cases hb:wfv x
       ·rw[hb] at hc hst
        have C:=zh hc;have HS:=zh hst;clear hc hst hb
        go_wp2_with (go_at_call 122;refine Calls.mono (zu C) ?_;rintro e w' ⟨rfl,hw⟩)
        go_ret;refine⟨ret_bool ?_,(zu HE).trans hw⟩;rw[wfv,zu HS];simp
       ·rw[hb] at hc hst
        have C:=zh hc;have HS:=zh hst;clear hc hst hb
        go_wp2_with (go_at_call 122;refine Calls.mono (zu C) ?_;rintro e w' ⟨rfl,hw⟩)
        go_roundw
        case rel =>
         have hst:=zu HS;rw[Bool.true_and] at hst;exact⟨j+1,by go_num,by omega,hst.symm,(zu HE).trans hw⟩
        case measure=>simp[intOf];omega
      ·have:j=l.length:=by omega
       subst this
       go_wp2_with fail
       go_ret;refine⟨ret_bool ?_,hE⟩;have hst:=zu hS;simp[wfvL] at hst;rw[wfv,← hst,zu HO,zu HU];simp[hk0,hk4]
end V
namespace V
theorem frozen_box (w:World) (cs:Array Value) (t:TypeId) (i:Nat):(w.alloc (.cells cs t)).frozen? ⟨w.heap.size,i,none⟩=false:=by
 simp only[World.frozen?,Go.heap_alloc_new w];simp
theorem Ext.boxF {w w':World} {cs:Array Value} {t:TypeId} (h:Ext (w.alloc (.cells cs t)) w') (i:Nat):w'.frozen? ⟨w.heap.size,i,none⟩=false:=by
 rw[Below.frozen h (by simp)];exact frozen_box w cs t i
theorem Ext.set {w w':World} (h:Ext w w') {a:Addr} (ha:w.heap.size≤a.block) (u:Value):Ext w (w'.setCell a u):=Below.setCell h ha u
theorem heap_alloc_size (w:World) (o:Obj):(w.alloc o).heap.size=w.heap.size+1:=by simp
def nilP:PV:=.mk 0 0 0 0 ⟨#[]⟩ []
abbrev nilV:Value:=.agg #[.int .i64 0,.int .i64 0,.complex .f64 0 0,.string ⟨#[]⟩,.slice none 0 0]
theorem rep_nil (w:World) (F:Nat→Prop):Rep w F nilP nilV:=by
 rw[nilP,Rep];exact⟨none,0,rfl,⟨by decide,by decide,by decide,by decide,by decide,by decide,by decide,by decide,by decide⟩,by simp[RepL]⟩
theorem nil_any (w:World):Calls Tryz.prog 108 #[] w fun e w'=>e = .returned nilV∧Ext w w':=by
 go_enter Tryz.func108,Tryz.ntmps108
 go_wp2_with fail
 go_returns
 exact⟨rfl,Ext.alloc _ _⟩
theorem int_any (n:Int) (w:World):Calls Tryz.prog 115 #[.int .i64 n] w fun e w'=>e = .returned (.agg #[.int .i64 1,.int .i64 n,.complex .f64 0 0,.string ⟨#[]⟩,.slice none 0 0])∧Ext w w':=by
 go_enter Tryz.func115,Tryz.ntmps115
 go_wp2_with fail
 go_returns
 exact⟨rfl,Ext.alloc _ _⟩
theorem top_any (p:PV) (v:Value) (w:World) (hr:Rep w (In w) p v) :
  Calls Tryz.prog 121 #[v] w fun e w'=>e = .returned (.int .i64 (sz p 0))∧Ext w w':=by
 have hc:=fun w' (h:Ext w w')=>size_any p v 0 w' (by decide) (hr.ext h);cases p with
 | mk k n re im s l =>
 rw[Rep] at hr;obtain⟨a,cap,rfl,hb,hl⟩:=hr;have C:=zh hc;clear hc hb hl
 go_enter Tryz.func121,Tryz.ntmps121
 go_wp2_with (go_at_call 148;refine Calls.mono (zu C _ (Ext.alloc _ _)) ?_;rintro e w' ⟨rfl,hw⟩)
 go_ret;exact⟨rfl,(Ext.alloc _ _).trans hw⟩
def okv (p:PV):Bool:=decide (sz p 0≤1000) && wfv p
theorem okv_any (p:PV) (v:Value) (w:World) (hr:Rep w (In w) p v) :
  Calls Tryz.prog 102 #[v] w fun e w'=>e = .returned (.bool (okv p))∧Ext w w':=by
 have hc:=fun w' (h:Ext w w')=>top_any p v w' (hr.ext h);have hf:=fun w' (h:Ext w w')=>formed_any p v w' (hr.ext h);obtain⟨m,hm⟩:∃ m,m=sz p 0:=⟨_,rfl⟩;have hm1:m≤1001:=by rw[hm];exact sz_le _ _
 have hq:okv p=(decide (m≤1000) && wfv p):=by rw[hm];rfl
 rw[← hm] at hc;rw[hq];clear hm hq;cases p with
 | mk k n re im s l =>
 rw[Rep] at hr;obtain⟨a,cap,rfl,hb,hl⟩:=hr;have C:=zh hc;have K:=zh hf;clear hc hb hl hf;by_cases hle:m≤1000
 all_goals
  go_enter Tryz.func102,Tryz.ntmps102
  go_wp2_with (first | (go_at_call 121;refine Calls.mono (zu C _ (Ext.alloc _ _)) ?_;rintro e w1 ⟨rfl,hw1⟩;have hx0:=hw1.box 0 rfl;have hx1:=hw1.box 1 rfl;have hx2:=hw1.box 2 rfl;have hx3:=hw1.box 3 rfl;have hx4:=hw1.box 4 rfl) | (go_at_call 122;refine Calls.mono (zu K _ ((Ext.alloc _ _).trans hw1)) ?_;rintro e w2 ⟨rfl,hw2⟩))
  go_ret
 ·exact⟨ret_bool (by simp[hle]),((Ext.alloc _ _).trans hw1).trans hw2⟩
 ·exact⟨ret_bool (by simp[hle]),(Ext.alloc _ _).trans hw1⟩
def tk (p:PV):PV:=if okv p then p else nilP
theorem taken_val (p:PV) (v:Value) (w:World) (hr:Rep w (In w) p v) :
  Calls Tryz.prog 89 #[v] w fun e w'=>e = .returned (if okv p then v else nilV)∧Ext w w':=by
 have hc:=fun w' (h:Ext w w')=>okv_any p v w' (hr.ext h);cases hO:okv p
 ·rw[if_neg (by decide)]
  rw[hO] at hc;clear hO;cases p with
  | mk k n re im s l =>
  rw[Rep] at hr;obtain⟨a,cap,rfl,hb,hl⟩:=hr;have C:=zh hc;clear hc hb hl
  go_enter Tryz.func89,Tryz.ntmps89
  go_wp2_with (first | (go_at_call 102;refine Calls.mono (zu C _ ((Ext.alloc _ _).trans (Ext.alloc _ _))) ?_;rintro e w1 ⟨rfl,hw1⟩) | (go_at_call 108;refine Calls.mono (nil_any _) ?_;rintro e w2 ⟨rfl,hw2⟩;have hw3:=hw1.trans hw2;have hx0:=hw3.box 0 rfl;have hx1:=hw3.box 1 rfl;have hx2:=hw3.box 2 rfl;have hx3:=hw3.box 3 rfl;have hx4:=hw3.box 4 rfl;have hf:=hw3.boxF;simp only[heap_alloc_size] at hx0 hx1 hx2 hx3 hx4 hf))
  refine bodyPost_ret (v:=nilV) (by simp[results,Tryz.results89,go_sem,hx0,hx1,hx2,hx3,hx4]) rfl ⟨rfl,?_⟩;have hE:=((Ext.alloc w _).trans (Ext.alloc _ _)).trans hw3;exact((((hE.set (by simp) _).set (by simp) _).set (by simp) _).set (by simp) _).set (by simp) _
 ·rw[if_pos rfl]
  rw[hO] at hc;clear hO;cases p with
  | mk k n re im s l =>
  rw[Rep] at hr;obtain⟨a,cap,rfl,hb,hl⟩:=hr;have C:=zh hc;clear hc hb hl
  go_enter Tryz.func89,Tryz.ntmps89
  go_wp2_with (go_at_call 102;refine Calls.mono (zu C _ ((Ext.alloc _ _).trans (Ext.alloc _ _))) ?_;rintro e w1 ⟨rfl,hw1⟩;have hx0:=hw1.box 0 rfl;have hx1:=hw1.box 1 rfl;have hx2:=hw1.box 2 rfl;have hx3:=hw1.box 3 rfl;have hx4:=hw1.box 4 rfl;have hf:=hw1.boxF;have hy:=(Ext.alloc _ _).trans hw1;have hy0:=hy.box 0 rfl;have hy1:=hy.box 1 rfl;have hy2:=hy.box 2 rfl;have hy3:=hy.box 3 rfl;have hy4:=hy.box 4 rfl;simp only[heap_alloc_size] at hx0 hx1 hx2 hx3 hx4 hf)
  have hE:=(Ext.alloc w _).trans hy;have hE:=((((hE.set (a:=⟨w.heap.size+1,0,none⟩) (by simp) (.int .i64 k)).set (a:=⟨w.heap.size+1,1,none⟩) (by simp) (.int .i64 n)).set (a:=⟨w.heap.size+1,2,none⟩) (by simp) (.complex .f64 re im)).set (a:=⟨w.heap.size+1,3,none⟩) (by simp) (.string s)).set (a:=⟨w.heap.size+1,4,none⟩) (by simp) (.slice a l.length cap);exact bodyPost_ret (v:=.agg #[.int .i64 k,.int .i64 n,.complex .f64 re im,.string s,.slice a l.length cap]) (by simp[results,Tryz.results89,go_sem,hx0,hx1,hx2,hx3,hx4]) rfl ⟨rfl,hE⟩
theorem taken_any (p:PV) (v:Value) (w:World) (hr:Rep w (In w) p v) :
  Calls Tryz.prog 89 #[v] w fun e w' => ∃ v',e = .returned v'∧Rep w' (In w') (tk p) v'∧Ext w w':=by
 refine(taken_val p v w hr).mono ?_;rintro e w' ⟨rfl,hw⟩;refine⟨_,rfl,?_,hw⟩;unfold tk;cases okv p
 ·exact rep_nil _ _
 ·exact hr.ext hw
def truev (p:PV):Bool:=decide (¬ (p.n=0∧(FloatKind.f64.format.order p.re 0=some Ordering.eq∧FloatKind.f64.format.order p.im 0=some Ordering.eq)∧p.s.toList = []∧p.l.length=0))
theorem truth_any (p:PV) (v:Value) (w:World) (hr:Rep w (In w) p v) :
  Calls Tryz.prog 54 #[v] w fun e w'=>e = .returned (.bool (truev (tk p)))∧Ext w w':=by
 have hc:=fun w' (h:Ext w w')=>taken_any p v w' (hr.ext h);obtain⟨u,hu⟩:∃ u,u=truev (tk p):=⟨_,rfl⟩;rw[← hu];obtain⟨q,hq⟩:∃ q,q=tk p:=⟨_,rfl⟩;rw[← hq] at hc hu;cases q with
 | mk k' n' re' im' s' l' =>
 have U:=zh hu;clear hu;clear hq;cases p with
 | mk k n re im s l =>
 rw[Rep] at hr;obtain⟨a,cap,rfl,hb,hl⟩:=hr;have C:=zh hc;clear hc hb hl;have hd:¬ n' = 0∨(n' = 0∧¬ FloatKind.f64.format.order re' 0=some Ordering.eq)∨(n' = 0∧FloatKind.f64.format.order re' 0=some Ordering.eq∧¬ FloatKind.f64.format.order im' 0=some Ordering.eq) ∨
   (n' = 0∧(FloatKind.f64.format.order re' 0=some Ordering.eq∧FloatKind.f64.format.order im' 0=some Ordering.eq)∧¬ s'.toList = []) ∨
   (n' = 0∧(FloatKind.f64.format.order re' 0=some Ordering.eq∧FloatKind.f64.format.order im' 0=some Ordering.eq)∧s'.toList = []∧¬ l'.length=0) ∨
   (n' = 0∧(FloatKind.f64.format.order re' 0=some Ordering.eq∧FloatKind.f64.format.order im' 0=some Ordering.eq)∧s'.toList = []∧l'.length=0):=by
  by_cases h1:n' = 0 <;> by_cases h2:FloatKind.f64.format.order re' 0=some Ordering.eq <;> by_cases h5:FloatKind.f64.format.order im' 0=some Ordering.eq <;> by_cases h3:s'.toList = [] <;> by_cases h4:l'.length=0 <;> simp[h1,h2,h3,h4,h5]
 have hu:u=decide (¬ (n' = 0∧(FloatKind.f64.format.order re' 0=some Ordering.eq∧FloatKind.f64.format.order im' 0=some Ordering.eq)∧s'.toList = []∧l'.length=0)):=zu U;have U:=zh hu;clear hu;rcases hd with h1 | ⟨h1,h2⟩ | ⟨h1,h2,h5⟩ | ⟨h1,h2,h3⟩ | ⟨h1,h2,h3,h4⟩ | ⟨h1,h2,h3,h4⟩
 all_goals
  go_enter Tryz.func54,Tryz.ntmps54
  go_wp2_with (go_at_call 89;refine Calls.mono (zu C _ (Ext.alloc _ _)) ?_;rintro e w1 ⟨v',rfl,hr',hw1⟩;rw[Rep] at hr';obtain⟨a',cap',rfl,-,-⟩:=hr';have hx0:=hw1.box 0 rfl;have hx1:=hw1.box 1 rfl;have hx2:=hw1.box 2 rfl;have hx3:=hw1.box 3 rfl;have hx4:=hw1.box 4 rfl;have hf:=hw1.boxF)
  go_ret;refine⟨ret_bool ?_,((((((Ext.alloc _ _).trans hw1).set (by simp) _).set (by simp) _).set (by simp) _).set (by simp) _).set (by simp) _⟩;rw[zu U];simp[*]
end V
namespace V
structure KI where
 op:Int
 a:Int
 b:Int
abbrev kiV (i:KI):Value:=.agg #[.int .i64 i.op,.int .i64 i.a,.int .i64 i.b]
def kPops (i:KI):Int :=
 if i.op=3∨i.op=4∨i.op=6∨i.op=8∨i.op=10∨i.op=11 then 1 else if i.op=5 then 2 else if i.op=9 then (if i.b < 0 then 0 else i.b) else if i.op=13 then (if i.a < 0 then 0 else i.a) else 0
def kPush (i:KI):Int:=if i.op=1∨i.op=2∨i.op=5∨i.op=6∨i.op=9∨i.op=13 then 1 else 0
def kBoth (a b:Int):List Int:=if a=b then [a] else if a < b then [a,b] else [b,a]
def kAr (o:Int):Int:=if 1≤o∧o≤14 then 2 else if 15≤o∧o≤20 then 1 else 0
def kLed (i:KI) (at':Int):List Int :=
 if i.op=10 then [] else if i.op=7 then [i.a] else if i.op=8 then kBoth i.a (at' + 1) else [at' + 1]
def kNext (l:List KI) (at':Int):List Int :=
 if at' < 0 then [] else match l[at'.toNat]? with
  | none => []
  | some i=>kLed i at'
theorem kNext_at {l:List KI} {j:Nat} {i:KI} (h:l[j]? = some i):kNext l (j:Int)=kLed i j:=by
 unfold kNext;rw[if_neg (by omega),show ((j:Int)).toNat=j by omega,h]
theorem kNext_out {l:List KI} {k:Int} (h:k < 0∨(l.length:Int)≤k):kNext l k = []:=by
 unfold kNext
 split
 ·rfl
 ·rw[List.getElem?_eq_none (by omega)]
theorem kLed_len (i:KI) (k:Int):(kLed i k).length≤2:=by
 unfold kLed kBoth
 repeat' split
 all_goals simp
theorem kNext_len (l:List KI) (k:Int):(kNext l k).length≤2:=by
 unfold kNext
 split
 ·simp
 ·split
  ·simp
  ·exact kLed_len _ _
theorem op_cases (o:Int):o=1∨o=2∨o=3∨o=4∨o=5∨o=6∨o=7∨o=8∨o=9∨o=10∨o=11∨o=12∨o=13 ∨
  (¬ o=1∧¬ o=2∧¬ o=3∧¬ o=4∧¬ o=5∧¬ o=6∧¬ o=7∧¬ o=8∧¬ o=9∧¬ o=10∧¬ o=11∧¬ o=12∧¬ o=13):=by omega
def RepC (w:World) (F:Nat→Prop) (a:Option Addr) (l:List KI):Prop :=
 l = []∨∃ b o,a=some ⟨b,o,none⟩∧F b∧∀ j i,l[j]? = some i→w.cell? ⟨b,o+j * 3,none⟩=some (.int .i64 i.op)∧w.cell? ⟨b,o+j * 3+1,none⟩=some (.int .i64 i.a)∧w.cell? ⟨b,o+j * 3+2,none⟩=some (.int .i64 i.b)
theorem RepC.to {w w':World} {F F':Nat→Prop} (h:∀ b,F b→F' b∧w'.heap[b]? = w.heap[b]?) {l:List KI} {a:Option Addr} (hr:RepC w F a l):RepC w' F' a l:=by
 rcases hr with hr | ⟨b,o,rfl,hf,hc⟩
 ·exact Or.inl hr
 ·refine Or.inr ⟨b,o,rfl,(h b hf).1,fun j i hi => ?_⟩
  have hk:∀ x,w'.cell? ⟨b,x,none⟩=w.cell? ⟨b,x,none⟩:=fun x=>World.cell?_of_block (w:=w) (h b hf).2;rw[hk,hk,hk];exact hc j i hi
theorem RepC.ext {w w':World} {l:List KI} {a:Option Addr} (hr:RepC w (In w) a l) (h:Ext w w'):RepC w' (In w') a l :=
 hr.to fun b hb=>⟨Nat.lt_of_lt_of_le hb h.size,h.block b hb⟩
theorem RepC.at {w:World} {F:Nat→Prop} {l:List KI} {a:Option Addr} (hr:RepC w F a l) {j:Nat} {i:KI} (h:l[j]? = some i) :
  ∃ b o,a=some ⟨b,o,none⟩∧F b∧w.cell? ⟨b,o+j * 3,none⟩=some (.int .i64 i.op)∧w.cell? ⟨b,o+j * 3+1,none⟩=some (.int .i64 i.a)∧w.cell? ⟨b,o+j * 3+2,none⟩=some (.int .i64 i.b):=by
 rcases hr with rfl | ⟨b,o,rfl,hf,hc⟩
 ·simp at h
 ·exact⟨b,o,rfl,hf,hc j i h⟩
def KBd (l:List KI):Prop:=∀ i ∈ l,-9223372036854775808≤i.a∧i.a≤9223372036854775807∧-9223372036854775808≤i.b∧i.b≤9223372036854775807
def RepZ (w:World) (F:Nat→Prop) (a:Option Addr) (l:List Int):Prop:=l = []∨∃ b,a=some ⟨b,0,none⟩∧F b∧∀ j x,l[j]? = some x→w.cell? ⟨b,j,none⟩=some (.int .i64 x)
theorem RepZ.to {w w':World} {F F':Nat→Prop} (h:∀ b,F b→F' b∧w'.heap[b]? = w.heap[b]?) {l:List Int} {a:Option Addr} (hr:RepZ w F a l):RepZ w' F' a l:=by
 rcases hr with hr | ⟨b,rfl,hf,hc⟩
 ·exact Or.inl hr
 ·refine Or.inr ⟨b,rfl,(h b hf).1,fun j x hx => ?_⟩
  rw[World.cell?_of_block (w:=w) (h b hf).2];exact hc j x hx
theorem RepZ.ext {w w':World} {l:List Int} {a:Option Addr} (hr:RepZ w (In w) a l) (h:Ext w w'):RepZ w' (In w') a l :=
 hr.to fun b hb=>⟨Nat.lt_of_lt_of_le hb h.size,h.block b hb⟩
def Fr2 (w w':World):Nat→Prop:=fun b=>w.heap.size≤b∧b < w'.heap.size
theorem RepZ.inn {w w':World} {l:List Int} {a:Option Addr} (hr:RepZ w' (Fr2 w w') a l):RepZ w' (In w') a l:=hr.to fun b hb=>⟨hb.2,rfl⟩
theorem RepZ.onn {w w' w2:World} {l:List Int} {a:Option Addr} (hr:RepZ w' (Fr2 w w') a l) (h:Ext w' w2):RepZ w2 (Fr2 w w2) a l:=hr.to fun b hb=>⟨⟨hb.1,Nat.lt_of_lt_of_le hb.2 h.size⟩,h.block b hb.2⟩
theorem RepZ.up {w0 w w':World} {l:List Int} {a:Option Addr} (hr:RepZ w' (Fr2 w w') a l) (h:Ext w0 w):RepZ w' (Fr2 w0 w') a l:=hr.to fun b hb=>⟨⟨Nat.le_trans h.size hb.1,hb.2⟩,rfl⟩
theorem repZ_one (w:World) (x:Int) (t:TypeId):RepZ (w.alloc (.cells #[.int .i64 x] t)) (Fr2 w (w.alloc (.cells #[.int .i64 x] t))) (some ⟨w.heap.size,0,none⟩) [x]:=by
 refine Or.inr ⟨_,rfl,⟨Nat.le_refl _,by simp⟩,fun j y hy => ?_⟩;cases j with
 | zero=>simp at hy;subst hy;exact cell_box w _ t 0 rfl
 | succ j=>simp at hy
theorem repZ_two (w:World) (x y:Int) (t:TypeId):RepZ (w.alloc (.cells #[.int .i64 x,.int .i64 y] t)) (Fr2 w (w.alloc (.cells #[.int .i64 x,.int .i64 y] t))) (some ⟨w.heap.size,0,none⟩) [x,y]:=by
 refine Or.inr ⟨_,rfl,⟨Nat.le_refl _,by simp⟩,fun j z hz => ?_⟩
 match j with
 | 0=>simp at hz;subst hz;exact cell_box w _ t 0 rfl
 | 1=>simp at hz;subst hz;exact cell_box w _ t 1 rfl
 | j+2=>simp at hz
end V
namespace V
section
variable {P:Program} {w:World}
theorem kapp_run (base:Nat) (t ty e:TypeId) (i:TypeInfo) (z:Value) (size bytes:Nat) (ht:P.underlying t=some (.slice e)) (hi:P.info? e=some i) (hz:i.zero=some z)
  (hsize:i.size=size) (hby:i.bytes=bytes) (hzs:z.cells.size=size) (hsz:0 < size)
  (ao:Option Addr) (n cap:Nat) (xs:List Value) (hown:w.ownsRow base e size (.slice ao n cap) n xs)
  (a:Addr) (m c:Nat) (news:List Value) (hm:0 < m) (hl:news.length=m * size) (hnews:∀ j u,news[j]? = some u→w.cell? (a.add j)=some u) (h1:∀ u ∈ news,u.oneCell' = true)
  (h63:n+m≤maxLen) (hbytes:(n+m) * bytes≤140737488355328) (hbase:base≤w.heap.size) :
  ∃ g' cap' w',(Builtin.append_ #[t,t] ty #[.slice ao n cap,.slice (some a) m c]).run P w = .ok (.slice (some ⟨g',0,none⟩) (n+m) cap') w'∧w'.ownsRow base e size (.slice (some ⟨g',0,none⟩) (n+m) cap') (n+m) (xs++news) ∧
   w.grownBy w' (Value.slice ao n cap).ownBlock∧((Value.slice ao n cap).ownBlock=some g'∨w.heap.size≤g'):=by
 obtain⟨v',w',hrun,ho,hg,_⟩:=run_append_own (P:=P) w base t ty e i z size bytes ht hi hz hsize hby hzs hsz (.slice ao n cap) n xs hown a m c news hl hnews h1 h63 hbytes hbase;have hv:∃ g' cap',v' = .slice (some ⟨g',0,none⟩) (n+m) cap':=by
  rcases ho.2 with⟨_,h0⟩ | ⟨g',cap',cur,hv,_⟩
  ·omega
  ·exact⟨g',cap',hv⟩
 obtain⟨g',cap',rfl⟩:=hv;refine⟨g',cap',w',hrun,ho,hg,?_⟩;rcases hown.2 with⟨hn,h0⟩ | ⟨g,cap2,cur,hn,hb,hgg,hnc,hcm,hcs,htake⟩
 ·injection hn with e1 e2 e3
  subst e1 e2 e3;obtain⟨v2,w2,hrun2,ho2,_⟩:=run_append_own (P:=P) w w.heap.size t ty e i z size bytes ht hi hz hsize hby hzs hsz (.slice none 0 0) 0 [] (World.ownsRow_nil w _ e size) a m c news hl hnews h1 h63 hbytes (Nat.le_refl _);rw[hrun] at hrun2;injection hrun2 with e1 e2;subst e1;have:=ho2.lt g' rfl;exact Or.inr this.1
 ·injection hn with e1 e2 e3
  subst e1 e3;by_cases hr:n+m≤cap
  ·subst hsize
   have hrun2:=run_append_room (P:=P) w t ty e i ht hi g n cap cur hgg a m c news hl hnews h1 hr (by rw[hl,← Nat.add_mul,hcs];exact Nat.mul_le_mul_right _ hr);rw[hrun] at hrun2;injection hrun2 with e1 e2;injection e1 with e1 _ _;injection e1 with e1;injection e1 with e1;subst e1;exact Or.inl rfl
  ·obtain⟨v2,w2,hrun2,ho2,_⟩:=run_append_arg_grows (P:=P) w t ty e i z size bytes ht hi hz hsize hby hzs hsz ⟨g,0,none⟩ n cap xs hown.1 (hown.cells rfl) a m c news hl hnews (by omega) h63 hbytes
   rw[hrun] at hrun2;injection hrun2 with e1 e2;subst e1;have:=ho2.lt g' rfl;exact Or.inr this.1
theorem kapp_list {ops:Array Oper} {rest:List Oper} {o:Oper} {a:Act} {Q:Exit→Act→World→Prop} (hgd:o.guard=none) (s x:Operand) (t:TypeId)
  (hop:o.op = .call { callee:=.builtin .append,args:=#[s,x],argTypes:=#[t,t] })
  (base:Nat) (e:TypeId) (i:TypeInfo) (z:Value) (size bytes:Nat) (ht:P.underlying t=some (.slice e)) (hi:P.info? e=some i) (hz:i.zero=some z)
  (hsize:i.size=size) (hby:i.bytes=bytes) (hzs:z.cells.size=size) (hsz:0 < size)
  (ao:Option Addr) (n cap:Nat) (xs:List Value) (hs:a.eval s = .slice ao n cap) (hown:w.ownsRow base e size (.slice ao n cap) n xs)
  (ad:Addr) (m c:Nat) (news:List Value) (hx:a.eval x = .slice (some ad) m c) (hm:0 < m) (hl:news.length=m * size) (hnews:∀ j u,news[j]? = some u→w.cell? (ad.add j)=some u) (h1:∀ u ∈ news,u.oneCell' = true)
  (h63:n+m≤maxLen) (hbytes:(n+m) * bytes≤140737488355328) (hbase:base≤w.heap.size)
  (h:∀ g' cap' w',w'.ownsRow base e size (.slice (some ⟨g',0,none⟩) (n+m) cap') (n+m) (xs++news)→w.grownBy w' (Value.slice ao n cap).ownBlock→((Value.slice ao n cap).ownBlock=some g'∨w.heap.size≤g')→wpList P ops Q rest (a.put o.dst (.slice (some ⟨g',0,none⟩) (n+m) cap')) w'):wpList P ops Q (o :: rest) a w:=by
 refine wpList_plain hgd fun K hK => ?_;obtain⟨g',cap',w',hrun,r1,r2,r3⟩:=kapp_run (P:=P) (w:=w) base t o.type e i z size bytes ht hi hz hsize hby hzs hsz ao n cap xs hown ad m c news hm hl hnews h1 h63 hbytes hbase;unfold Oper.wp;simp[execOp,hop,resolve,invoke,builtin,hs,hx,hrun,Result.andThen];exact hK _ _ (h g' cap' w' r1 r2 r3)
theorem k_step_call {ops:Array Oper} {o:Oper} {a:Act} {K:Act→World→Prop} {Q:Exit→Act→World→Prop} {E:Prop}
  (hg:o.guard=none) (f:FuncId) (x:Operand) (t:TypeId) (hop:o.op=Op.call { callee:=Callee.value (.func f),args:=#[x],argTypes:=#[t] })
  (v:Value) (hx:a.eval x=v) (hf:(callFunc f #[v]).run P w = .ok (.enter f #[v]) w) (hK:Calls P f #[v] w fun e w' => ∃ u,e = .returned u∧K (a.put o.dst u) w') :
  if Region.wanted o (yielded ops a.tmps)=true then Oper.wp P o a w K Q else E:=by
 have hw:Region.wanted o (yielded ops a.tmps)=true:=by simp[Region.wanted,hg]
 rw[if_pos hw];have he:a.eval (.func f) = .func (.func f) #[] #[]:=rfl;unfold Oper.wp;have hrun:(execOp a.eval o).run P w = .ok (.enter f #[v]) w:=by
  simp[execOp,hop,resolve,invoke,hx,he,Result.andThen,Deferred.ofValue,hf]
 rw[hrun,Oper.upon_enter];refine hK.mono ?_;rintro e w' ⟨u,rfl,h⟩;exact h
def KNrm (Q:Exit→Act→World→Prop):Exit→Act→World→Prop
 | .normal,a,w=>Q .normal a w
 | _,_,_=>False
theorem k_nrm {c:Code} {Q:Exit→Act→World→Prop} {a:Act} (h:c.wp P (KNrm Q) a w):c.wp P Q a w :=
 Code.wp_mono (fun e a w hq=>by cases e <;> first | exact hq | exact hq.elim) h
theorem k_least (p:Nat→Prop) (h:∃ n,p n):∃ n,p n∧∀ m,p m→n≤m:=by
 obtain⟨n,hn⟩:=h
 induction n using Nat.strongRecOn with
 | _ n ih =>
  by_cases hm:∃ m,m < n∧p m
  ·obtain⟨m,h1,h2⟩:=hm
   exact ih m h1 h2
  ·exact⟨n,hn,fun m hp=>Nat.le_of_not_lt fun h=>hm ⟨m,h,hp⟩⟩
theorem k_scope_loop {a:Act} {Q:Exit→Act→World→Prop} {c rest:Code} (l:Nat) (J:Nat→Act→World→Prop) (hf:findLabel c l=some (Code.skip.seq rest))
  (pass:∀ k a w,J k a w→rest.wp P (Exit.jump l (fun a' w' => ∃ k',k' < k∧J k' a' w') Q) a w)
  (first:(∀ k a w,J k a w→rest.wp P (Exit.jump l (fun a' w' => ∃ k,J k a' w') Q) a w)→c.wp P (Exit.jump l (fun a' w' => ∃ k,J k a' w') Q) a w):(Code.scope c).wp P Q a w:=by
 refine wp_scope_jumps l (fun a' w' => ∃ k,J k a' w') (fun a w=>Classical.epsilon (fun k=>J k a w∧∀ m,J m a w→k≤m)) hf (first fun k a w h => ?_) ?_
 ·refine Code.wp_mono ?_ (pass k a w h)
  intro e a' w' h;cases e <;> first | exact h | (obtain⟨h1,k',_,h2⟩:=h;exact⟨h1,k',h2⟩)
 ·intro a w h
  refine wp_seq (wp_skip ?_);have hs:=Classical.epsilon_spec (k_least _ h);refine Code.wp_mono ?_ (pass _ a w hs.1);intro e a' w' h;cases e
  case goto =>
   obtain⟨h1,k',h3,h2⟩:=h;refine⟨h1,⟨k',h2⟩,?_⟩;have ht:=Classical.epsilon_spec (k_least (fun k=>J k a' w') ⟨k',h2⟩);exact Nat.lt_of_le_of_lt (ht.2 k' h2) h3
  all_goals exact h
end
theorem k_row_set {w:World} {g:Nat} {cs:Array Value} {t:TypeId} (h:w.heap[g]? = some (.cells cs t (0,0))) (i:Nat) (v:Value):(w.setCell ⟨g,i,none⟩ v).heap[g]? = some (.cells (cs.setIfInBounds i v) t (0,0)):=by
 simp[World.setCell,Array.getElem?_modify,h]
theorem k_row_other {w:World} {g b:Nat} {x:Option Obj} (h:w.heap[g]? = x) (hne:g≠b) (i:Nat) (v:Value):(w.setCell ⟨b,i,none⟩ v).heap[g]? = x :=
 (Below.heap_setCell _ _ _ _ hne).trans h
theorem k_rowC {w:World} {g:Nat} {cs:Array Value} {t:TypeId} (h:w.heap[g]? = some (.cells cs t (0,0))) (i:Nat) {v:Value} (hi:cs[i]? = some v):w.cell? ⟨g,i,none⟩=some v:=by
 rw[cell_of_row _ _ i cs t (0,0) h];exact hi
theorem k_rowF {w:World} {g:Nat} {cs:Array Value} {t:TypeId} (h:w.heap[g]? = some (.cells cs t (0,0))) (i:Nat):w.frozen? ⟨g,i,none⟩=false:=by
 simp only[World.frozen?,h];simp
theorem k_lt {w:World} {g:Nat} {o:Obj} (h:w.heap[g]? = some o):g < w.heap.size:=(Array.getElem?_eq_some_iff.1 h).1
theorem k_own_heap {w W:World} {base:Nat} {t:TypeId} {size:Nat} {v:Value} {n:Nat} {xs:List Value} (h:w.ownsRow base t size v n xs) (e:∀ k,v.ownBlock=some k→W.heap[k]? = w.heap[k]?):W.ownsRow base t size v n xs:=by
 obtain⟨h1,h2⟩:=h;refine⟨h1,?_⟩;rcases h2 with h2 | ⟨g,cap,cur,rfl,hb,hg,r⟩
 ·exact Or.inl h2
 ·exact Or.inr ⟨g,cap,cur,rfl,hb,(e g rfl).trans hg,r⟩
theorem k_own_prefix {w:World} {base:Nat} {t:TypeId} {size:Nat} {a:Option Addr} {n m cap:Nat} {xs:List Value} (h:w.ownsRow base t size (.slice a n cap) n xs) (hm:m≤n):w.ownsRow base t size (.slice a m cap) m (xs.take (m * size)):=by
 obtain⟨h1,h2⟩:=h;have hmul:m * size≤n * size:=Nat.mul_le_mul_right _ hm;refine⟨by simp;omega,?_⟩;rcases h2 with⟨e,h0⟩ | ⟨g,cap2,cur,e,hb,hg,hn,hcm,hcs,ht⟩
 ·injection e with e1 e2 e3
  subst e1 e3;have:m=0:=by omega
  subst this;exact Or.inl ⟨rfl,rfl⟩
 ·injection e with e1 e2 e3
  subst e1 e3;refine Or.inr ⟨g,cap,cur,rfl,hb,hg,by omega,hcm,hcs,?_⟩;rw[← ht,List.take_take,Nat.min_eq_left hmul]
theorem k_info:∃ i0,Tryz.prog.info? 3=some i0∧i0.zero=some (.int .i64 0)∧i0.size=1∧i0.bytes=8:=by
 have h:(Tryz.prog.info? 3).map (fun i=>(i.zero,i.size,i.bytes))=some (some (.int .i64 0),1,8):=by kernel_rfl
 cases hi:Tryz.prog.info? 3 with
 | none=>rw[hi] at h;cases h
 | some i =>
  rw[hi] at h;simp at h;exact⟨i,rfl,h.1,h.2.1,h.2.2⟩
theorem k_one_int (x:Int):∀ u ∈ ([.int .i64 x]:List Value),u.oneCell' = true:=by
 intro u hu;simp at hu;subst hu;rfl
theorem k_add (g j:Nat):(⟨g,0,none⟩:Addr).add j=⟨g,j,none⟩:=by simp[Addr.add];omega
theorem k_new (W:World) (b:Nat) (hb:b=W.heap.size) (xs:List Value) (t:TypeId):∀ (j:Nat) (u:Value),xs[j]? = some u→(W.alloc (.cells xs.toArray t)).cell? ((⟨b,0,none⟩:Addr).add j)=some u:=by
 subst hb;intro j u hu;have:(⟨W.heap.size,0,none⟩:Addr).add j=⟨W.heap.size,j,none⟩:=by simp[Addr.add];omega
 rw[this];exact cell_box W _ t j (by simpa using hu)
abbrev zs (l:List Int):List Value:=l.map (fun x=>Value.int .i64 x)
abbrev ns (l:List Nat):List Value:=l.map (fun (x:Nat)=>Value.int .i64 (x:Int))
theorem made_zeros (n:Nat):madeCells #[Value.int .i64 0] (n * 1)=(zs (List.replicate n 0)).toArray:=by
 apply Array.ext
 ·simp[madeCells,zs]
 ·intro i h1 h2
  simp[madeCells,zs];rw[show i % 1=0 from Nat.mod_one i];rfl
theorem make_ints (n:Nat) (hn:n≤1000000) (w:World):(Instr.makeSlice 77 (.int .i64 (n:Int)) (.int .i64 (n:Int))).run Tryz.prog w = .ok (.slice (some ⟨w.heap.size,0,none⟩) n n) (w.alloc (.cells (zs (List.replicate n 0)).toArray 3)):=by
 obtain⟨i0,hi,hz,hs,hb⟩:=k_info;have h:=run_make (P:=Tryz.prog) w 77 3 i0 (.int .i64 0) Tryz.underlying77 hi hz .i64 .i64 n n (by omega) (by omega) (by rw[hb];omega) (by omega);rw[hs] at h;simp only[Int.toNat_natCast] at h;rw[h];have e:=made_zeros n;rw[show (Value.int .i64 0).cells = #[Value.int .i64 0] from rfl,e]
end V
namespace V
structure KW where
 hs:List Int
 op:List Nat
 f:Bool
def kCome (n:Nat) (st:KW) (to h:Int):KW :=
 if (n:Int)≤to∨64 < h then ⟨st.hs,st.op,true⟩
 else match st.hs[to.toNat]? with
  | none=>st
  | some x=>if x = -1 then ⟨st.hs.set to.toNat h,to.toNat :: st.op,st.f⟩ else if x=h then st else ⟨st.hs,st.op,true⟩
def kComes (n:Nat) (h:Int):List Int→KW→KW
 | [],st=>st
 | to :: r,st=>kComes n h r (kCome n st to h)
def kLeave (code:List KI) (st:KW) (j:Nat):KW :=
 match code[j]? with
 | none=>st
 | some i=>match st.hs[j]? with
  | none=>st
  | some x=>if x - kPops i < 0 then ⟨st.hs,st.op,true⟩ else kComes code.length (x - kPops i+kPush i) (kNext code j) st
def kRun (code:List KI):Nat→KW→Option KW
 | 0,_=>none
 | k+1,st=>if st.f then some st else match st.op with
  | []=>some st
  | j :: r=>kRun code k (kLeave code ⟨st.hs,r,st.f⟩ j)
def kHts (code:List KI) (k:Nat):Option (Option (List Int)) :=
 match kRun code k (kCome code.length ⟨List.replicate code.length (-1),[],false⟩ 0 0) with
 | none=>none
 | some st=>if st.f then some none else some (some st.hs)
theorem kCome_len (n:Nat) (st:KW) (to h:Int):(kCome n st to h).hs.length=st.hs.length∧(kCome n st to h).op.length≤st.op.length+1:=by
 unfold kCome
 split
 ·exact⟨rfl,by simp⟩
 ·split
  ·exact⟨rfl,by simp⟩
  ·split
   ·exact⟨by simp,by simp⟩
   ·split
    ·exact⟨rfl,by simp⟩
    ·exact⟨rfl,by simp⟩
theorem kComes_len (n:Nat) (h:Int):∀ (l:List Int) (st:KW),(kComes n h l st).hs.length=st.hs.length∧(kComes n h l st).op.length≤st.op.length+l.length:=by
 intro l
 induction l with
 | nil=>intro st;exact⟨rfl,by simp[kComes]⟩
 | cons x l ih =>
  intro st;have h1:=kCome_len n st x h;have h2:=ih (kCome n st x h);rw[kComes];refine⟨h2.1.trans h1.1,?_⟩;have:=h2.2;have:=h1.2;simp only[List.length_cons];omega
theorem kLeave_len (code:List KI) (st:KW) (j:Nat):(kLeave code st j).hs.length=st.hs.length∧(kLeave code st j).op.length≤st.op.length+2:=by
 unfold kLeave
 split
 ·exact⟨rfl,by omega⟩
 ·split
  ·exact⟨rfl,by omega⟩
  ·split
   ·exact⟨rfl,by simp⟩
   ·have h1:=kComes_len code.length
    obtain⟨a,b⟩:=h1 _ (kNext code j) st;exact⟨a,Nat.le_trans b (Nat.add_le_add_left (kNext_len _ _) _)⟩
def KOk (n:Nat) (st:KW):Prop:=st.hs.length=n∧(∀ j ∈ st.op,j < n)∧(∀ x ∈ st.hs,-1≤x∧x≤64)
theorem KOk.come {n:Nat} {st:KW} (h:KOk n st) (to x:Int) (h0:0≤to) (hx:-1≤x):KOk n (kCome n st to x):=by
 unfold kCome
 split
 ·exact h
 ·split
  ·exact h
  ·split
   ·refine⟨by simpa using h.1,fun j hj => ?_,fun y hy => ?_⟩
    ·rcases List.mem_cons.1 hj with rfl | hj
     ·omega
     ·exact h.2.1 j hj
    ·rcases List.mem_or_eq_of_mem_set hy with hy | rfl
     ·exact h.2.2 y hy
     ·omega
   ·split
    ·exact h
    ·exact h
def KNb (code:List KI):Prop:=∀ (j:Nat) (x:Int),x ∈ kNext code j→0≤x
structure WkS (w0 w:World) (B H:Nat) (a:Option Addr) (cap n:Nat) (st:KW) (oa:Option Addr) (oc:Nat):Prop where
 ext:Ext w0 w
 bB:w0.heap.size≤B
 bH:w0.heap.size≤H
 ne:B≠H
 rB:w.heap[B]? = some (.cells #[.slice a n cap,.slice (some ⟨H,0,none⟩) n n,.slice oa st.op.length oc,.bool st.f] 160 (0,0))
 rH:w.heap[H]? = some (.cells (zs st.hs).toArray 3 (0,0))
 ok:KOk n st
 own:w.ownsRow w0.heap.size 3 1 (.slice oa st.op.length oc) st.op.length (ns st.op.reverse)
 aB:∀ k,(Value.slice oa st.op.length oc).ownBlock=some k→k≠B∧k≠H
abbrev obk (oa:Option Addr):Option Nat:=(Value.slice oa 0 0).ownBlock
theorem obk_eq (oa:Option Addr) (n c:Nat):(Value.slice oa n c).ownBlock=obk oa:=by cases oa <;> rfl
structure WkF (B H:Nat) (oa oa':Option Addr) (w w':World):Prop where
 size:w.heap.size≤w'.heap.size
 keep:∀ k,k < w.heap.size→k≠B→k≠H→obk oa≠some k→w'.heap[k]? = w.heap[k]?
 own:∀ k,obk oa' = some k→obk oa=some k∨w.heap.size≤k
theorem WkF.of {B H:Nat} {oa:Option Addr} {w w':World} (h:Ext w w'):WkF B H oa oa w w':=⟨h.size,fun k hk _ _ _=>h.block k hk,fun k hk=>Or.inl hk⟩
theorem WkF.trans {B H:Nat} {o1 o2 o3:Option Addr} {a b c:World} (h:WkF B H o1 o2 a b) (k:WkF B H o2 o3 b c):WkF B H o1 o3 a c:=by
 refine⟨Nat.le_trans h.size k.size,fun i hi h1 h2 h3=>(k.keep i (Nat.lt_of_lt_of_le hi h.size) h1 h2 (fun e => ?_)).trans (h.keep i hi h1 h2 h3),fun i hi => ?_⟩
 ·rcases h.own i e with e2 | e2
  ·exact h3 e2
  ·omega
 ·rcases k.own i hi with e | e
  ·exact h.own i e
  ·exact Or.inr (Nat.le_trans h.size e)
theorem WkS.on {w0 w w':World} {B H:Nat} {a:Option Addr} {cap n:Nat} {st:KW} {oa:Option Addr} {oc:Nat} (h:WkS w0 w B H a cap n st oa oc) (k:Ext w w'):WkS w0 w' B H a cap n st oa oc :=
 ⟨h.ext.trans k,h.bB,h.bH,h.ne,(k.block B (k_lt h.rB)).trans h.rB,(k.block H (k_lt h.rH)).trans h.rH,h.ok,k_own_heap h.own (fun i hi=>k.block i (h.own.lt i hi).2),h.aB⟩
theorem WkS.fault {w0 w:World} {B H:Nat} {a:Option Addr} {cap n:Nat} {st:KW} {oa:Option Addr} {oc:Nat} (h:WkS w0 w B H a cap n st oa oc):WkS w0 (w.setCell ⟨B,3,none⟩ (.bool true)) B H a cap n ⟨st.hs,st.op,true⟩ oa oc :=
 ⟨h.ext.set h.bB _,h.bB,h.bH,h.ne,by simpa only [List.setIfInBounds_toArray,List.set_cons_zero,List.set_cons_succ] using k_row_set h.rB 3 (.bool true),k_row_other h.rH (Ne.symm h.ne) _ _,h.ok,k_own_heap h.own (fun i hi=>Below.heap_setCell _ _ _ _ (h.aB i hi).1),h.aB⟩
theorem WkF.fault (w:World) (B H:Nat) (oa:Option Addr):WkF B H oa oa w (w.setCell ⟨B,3,none⟩ (.bool true)) :=
 ⟨by simp[World.setCell],fun k _ h1 _ _=>Below.heap_setCell _ _ _ _ h1,fun k hk=>Or.inl hk⟩
end V
end Go.Proofs.YtjnpehohialmbaaGreat
