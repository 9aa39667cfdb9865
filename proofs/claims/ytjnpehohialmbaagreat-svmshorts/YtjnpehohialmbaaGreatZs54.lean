/- What the document tells of an instruction;two rows of the same numbers. -/
import Derived.Test.YtjnpehohialmbaaGreatZs31
set_option linter.unusedSimpArgs false
set_option linter.unusedVariables false
set_option maxRecDepth 10000
set_option maxHeartbeats 2000000
namespace Go.Proofs.YtjnpehohialmbaaGreat
open Go.RowKit
namespace V
theorem rpops_any (i:KI) (w:World):Calls Tryz.prog 48 #[kiV i] w fun e w'=>e = .returned (.int .i64 (kPops i))∧Ext w w':=by
 obtain⟨o,a,b⟩:=i;rcases op_cases o with rfl | rfl | rfl | rfl | rfl | rfl | rfl | rfl | rfl | rfl | rfl | rfl | rfl | ⟨h1,h2,h3,h4,h5,h6,h7,h8,h9,h10,h11,h12,h13⟩
 case inr.inr.inr.inr.inr.inr.inr.inr.inl =>
  by_cases hb:b < 0
  all_goals
   go_enter Tryz.func48,Tryz.ntmps48
   go_wp2_with fail
   go_ret;exact⟨by simp[kPops,hb];try omega,Ext.alloc _ _⟩
 case inr.inr.inr.inr.inr.inr.inr.inr.inr.inr.inr.inr.inl =>
  by_cases hb:a < 0
  all_goals
   go_enter Tryz.func48,Tryz.ntmps48
   go_wp2_with fail
   go_ret;exact⟨by simp[kPops,hb];try omega,Ext.alloc _ _⟩
 all_goals
  go_enter Tryz.func48,Tryz.ntmps48
  go_wp2_with fail
  go_ret;exact⟨by simp[kPops, *],Ext.alloc _ _⟩
theorem rpushes_any (i:KI) (w:World):Calls Tryz.prog 49 #[kiV i] w fun e w'=>e = .returned (.int .i64 (kPush i))∧Ext w w':=by
 obtain⟨o,a,b⟩:=i;rcases op_cases o with rfl | rfl | rfl | rfl | rfl | rfl | rfl | rfl | rfl | rfl | rfl | rfl | rfl | ⟨h1,h2,h3,h4,h5,h6,h7,h8,h9,h10,h11,h12,h13⟩
 all_goals
  go_enter Tryz.func49,Tryz.ntmps49
  go_wp2_with fail
  go_ret;exact⟨by simp[kPush, *],Ext.alloc _ _⟩
theorem rnext_any (l:List KI) (k:Int) (a:Option Addr) (cap:Nat) (w:World) (h:RepC w (In w) a l) (hl:l.length≤1000000) :
  Calls Tryz.prog 79 #[.slice a l.length cap,.int .i64 k] w (NextIs l k w):=by
 by_cases hk:k < 0∨(l.length:Int)≤k
 ·have e:=kNext_out hk
  have E:=zh e;clear e;rcases (show k < 0∨(¬ k < 0∧(l.length:Int)≤k) by omega) with h1 | ⟨h1,h2⟩
  all_goals
   clear hk
   go_enter Tryz.func79,Tryz.ntmps79
   go_wp2_with fail
   go_ret;unfold NextIs;rw[zu E];exact⟨_,_,rfl,by simp,Or.inl rfl,Ext.refl _⟩
 ·obtain⟨j,rfl⟩:∃ j:Nat,k=j:=⟨k.toNat,by omega⟩
  have hj:j < l.length:=by omega
  obtain⟨i,hi⟩:∃ i,l[j]? = some i:=⟨_,List.getElem?_eq_getElem hj⟩;have hn:=kNext_at hi;obtain⟨b,o,rfl,hf,c0,c1,c2⟩:=h.at hi;unfold NextIs;rw[hn];clear hk hn hi h;generalize l.length=N at *;obtain⟨p,x,y⟩:=i;simp only at c0 c1 c2;have HX:Hd (∀ o1 o2:Obj,Ext w ((w.alloc o1).alloc o2)):=fun o1 o2=>(Ext.alloc _ _).trans (Ext.alloc _ _);have HZ1:Hd (∀ (o1:Obj) (x:Int),RepZ ((w.alloc o1).alloc (.cells #[.int .i64 x] 3)) (Fr2 w ((w.alloc o1).alloc (.cells #[.int .i64 x] 3))) (some ⟨w.heap.size+1,0,none⟩) [x]):=fun o1 x=>by
   have h:=(repZ_one (w.alloc o1) x 3).up (Ext.alloc w o1);rw[heap_alloc_size] at h;exact h
  have HZ2:Hd (∀ (o1:Obj) (x y:Int),RepZ ((w.alloc o1).alloc (.cells #[.int .i64 x,.int .i64 y] 3)) (Fr2 w ((w.alloc o1).alloc (.cells #[.int .i64 x,.int .i64 y] 3))) (some ⟨w.heap.size+1,0,none⟩) [x,y]):=fun o1 x y=>by
   have h:=(repZ_two (w.alloc o1) x y 3).up (Ext.alloc w o1);rw[heap_alloc_size] at h;exact h
  rcases op_cases p with rfl | rfl | rfl | rfl | rfl | rfl | rfl | rfl | rfl | rfl | rfl | rfl | rfl | ⟨h1,h2,h3,h4,h5,h6,h7,h8,h9,h10,h11,h12,h13⟩
  case inr.inr.inr.inr.inr.inr.inr.inl =>
   rw[kLed_brz];rcases Int.lt_trichotomy x ((j:Int)+1) with h | h | h
   ·have hE:Hd (kBoth x ((j:Int)+1) = [x,(j:Int)+1]):=by unfold Hd kBoth;rw[if_neg (by omega),if_pos h]
    go_enter Tryz.func79,Tryz.ntmps79
    go_wp2_with fail
    rw[zu hE];go_ret;exact⟨_,_,rfl,by simp,zu HZ2 _ _ _,zu HX _ _⟩
   ·have hE:Hd (kBoth x ((j:Int)+1) = [(j:Int)+1]):=by unfold Hd kBoth;rw[if_pos h,h]
    have h1:¬ x < (j:Int)+1:=by omega
    have h2:¬ (j:Int)+1 < x:=by omega
    clear h
    go_enter Tryz.func79,Tryz.ntmps79
    go_wp2_with fail
    rw[zu hE];go_ret;exact⟨_,_,rfl,by simp,zu HZ1 _ _,zu HX _ _⟩
   ·have hE:Hd (kBoth x ((j:Int)+1) = [(j:Int)+1,x]):=by unfold Hd kBoth;rw[if_neg (by omega),if_neg (by omega)]
    have h1:¬ x < (j:Int)+1:=by omega
    go_enter Tryz.func79,Tryz.ntmps79
    go_wp2_with fail
    rw[zu hE];go_ret;exact⟨_,_,rfl,by simp,zu HZ2 _ _ _,zu HX _ _⟩
  all_goals
   go_enter Tryz.func79,Tryz.ntmps79
   go_wp2_with fail
   go_ret;simp[kLed, *]
   first | exact⟨Or.inl rfl,Ext.alloc _ _⟩ | exact⟨_,_,⟨rfl,rfl⟩,by simp,zu HZ1 _ _,zu HX _ _⟩
end V
end Go.Proofs.YtjnpehohialmbaaGreat
