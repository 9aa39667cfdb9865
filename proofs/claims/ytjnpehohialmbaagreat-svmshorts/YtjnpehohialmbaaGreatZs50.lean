/- The walk of the law SvmShorts: eight texts. -/
import Derived.Test.YtjnpehohialmbaaGreatZs49
set_option linter.unusedSimpArgs false
set_option linter.unusedVariables false
set_option maxRecDepth 10000
set_option maxHeartbeats 1500000
namespace Go.Proofs.YtjnpehohialmbaaGreat
open Go.RowKit
section
variable {w w' w2:World}
theorem text_X (x:Bool) (W:World):Calls Tryz.prog 4 #[.bool x] W fun e w'=>e = .returned (.string ⟨(tAX x).toArray⟩)∧w' = W:=by
 cases x
 all_goals
  go_enter Tryz.func4,Tryz.ntmps4
  go_wp2_with fail
  go_ret;exact⟨rfl,rfl⟩
def MdX (a b o:Bool) (pr:List V.KF):Prop:=∀ (s:ByteArray) (W:World),s=⟨(txX a b o).toArray⟩→Calls Tryz.prog 5 #[.string s] W fun e' w' => ∃ pa pc,e' = .returned (.tuple #[V.kpV pa 2 pc 1,.bool true])∧V.RepP w' (V.In w') pa pr∧Ext W w'
def RuX (n:Nat) (v:Int) (pr:List V.KF):Prop:=∀ (pa:Option Addr) (pc:Nat) (W:World),V.RepP W (V.In W) pa pr→Calls Tryz.prog 6 #[V.kpV pa 2 pc 1,.int .i64 99] W fun en w'=>Ext W w'∧∃ eb ec x2 x3 x4 x5 x6 x7,en = .returned (.tuple #[V.trV (some ⟨eb,0,none⟩) n ec (.int .i64 1) (.int .i64 v) (.complex .f64 x2 x3) (.string x4) (.slice x5 x6 x7) 0,.int .i64 0])∧∀ (j:Nat),j < n→w'.cell? ⟨eb,j * 7,none⟩=some (.int .i64 (if j % 2=0 then 1 else 2))
def AwX:Prop:=∀ W,Calls Tryz.prog 7 #[] W fun e w'=>e = .returned (.bool true)∧Ext W w'
abbrev obX (eb n ec:Nat) (v:Int) (x2 x3:Nat) (x4:ByteArray) (x5:Option Addr) (x6 x7:Nat):Obj:=.cells #[.slice (some ⟨eb,0,none⟩) n ec,.int .i64 1,.int .i64 v,.complex .f64 x2 x3,.string x4,.slice x5 x6 x7,.int .i64 0] 35 (0,0)
theorem s_fff (pr:List V.KF) (w:World) (HM:Hd (MdX false false false pr)) (HR:Hd (RuX 2 0 pr)) (HA:Hd AwX) :
  Calls Tryz.prog 3 #[.bool false,.bool false,.bool false] w fun e w'=>e = .returned (.bool true)∧Ext w w':=by
 have HT:=zh (fun (x:Bool) (W:World)=>text_X x W)
 go_enter Tryz.func3,Tryz.ntmps3
 go_wp2_with (first
  | (go_at_call 4;refine Calls.mono (zu HT _ _) ?_;rintro e wq ⟨rfl,hw⟩;obtain rfl:=hw.symm)
  | (go_at_call 5;refine Calls.mono (zu HM _ _ (by kernel_rfl)) ?_;rintro e w1 ⟨pa,pc,rfl,hR,hX⟩;have R1:=zh (fun ob=>V.RepP.ext hR (Ext.alloc w1 ob));have X1:=zh hX;clear hR hX)
  | (go_at_call 6;refine Calls.mono (zu HR _ _ _ (zu R1 _)) ?_;rintro e w3 ⟨hX,eb,ec,x2,x3,x4,x5,x6,x7,rfl,hev⟩;have X3:=zh (((zu X1).trans (Ext.alloc _ _)).trans hX);have HQ:=zh hev;clear hX hev))
 have E3:=zh (Ext.alloc w3 (obX eb 2 ec 0 x2 x3 x4 x5 x6 x7));have B3:=zh (Go.heap_alloc_new w3 (obX eb 2 ec 0 x2 x3 x4 x5 x6 x7))
 go_loopw [14,15] (fun to t wr => ∃ (k m:Nat),to = .int .i64 m∧t = .int .i64 k∧k≤2∧m=k / 2∧Hd (Ext (w3.alloc (obX eb 2 ec 0 x2 x3 x4 x5 x6 x7)) wr)) (fun _ t _ => 2 - (intOf t).toNat)
 case atStart=>exact⟨0,0,rfl,rfl,by omega,rfl,Ext.refl _⟩
 case round =>
  obtain⟨k,m,rfl,rfl,hk,hm,hX⟩:=hrel;have hb:=(zu hX).row (zu B3);have b0:wr.cell? ⟨w3.heap.size,0,none⟩=some (.slice (some ⟨eb,0,none⟩) 2 ec):=zr hb 0 rfl;have b1:=zr hb 1 rfl;have b2:=zr hb 2 rfl;have b6:=zr hb 6 rfl;have r0:wr.cell? ⟨eb,0,none⟩=some (.int .i64 1):=(zu hX).cell ((zu E3).cell (zu HQ 0 (by decide)));have r1:wr.cell? ⟨eb,7,none⟩=some (.int .i64 2):=(zu hX).cell ((zu E3).cell (zu HQ 1 (by decide)));rcases (by omega:k=0∨k=1∨k=2) with rfl | rfl | rfl
  ·have hm2:m=0:=by omega
   clear hm hk;subst hm2
   go_wp2_with fail
   go_roundw
   case rel=>exact⟨1,0,rfl,by go_num,by omega,by omega,hX⟩
   case measure=>simp[intOf]
  ·have hm2:m=0:=by omega
   clear hm hk;subst hm2
   go_wp2_with fail
   go_roundw
   case rel=>exact⟨2,1,rfl,by go_num,by omega,by omega,hX⟩
   case measure=>simp[intOf]
  ·have hm2:m=1:=by omega
   clear hm hk;subst hm2
   go_wp2_with (go_at_call 7;refine Calls.mono (zu HA _) ?_;rintro e w5 ⟨rfl,h5⟩;have X5:=zh ((((zu X3).trans (zu E3)).trans (zu hX)).trans h5);clear h5)
   go_ret;exact⟨rfl,zu X5⟩
theorem s_fft (pr:List V.KF) (w:World) (HM:Hd (MdX false false true pr)) (HR:Hd (RuX 4 0 pr)) (HA:Hd AwX) :
  Calls Tryz.prog 3 #[.bool false,.bool false,.bool true] w fun e w'=>e = .returned (.bool true)∧Ext w w':=by
 have HT:=zh (fun (x:Bool) (W:World)=>text_X x W)
 go_enter Tryz.func3,Tryz.ntmps3
 go_wp2_with (first
  | (go_at_call 4;refine Calls.mono (zu HT _ _) ?_;rintro e wq ⟨rfl,hw⟩;obtain rfl:=hw.symm)
  | (go_at_call 5;refine Calls.mono (zu HM _ _ (by kernel_rfl)) ?_;rintro e w1 ⟨pa,pc,rfl,hR,hX⟩;have R1:=zh (fun ob=>V.RepP.ext hR (Ext.alloc w1 ob));have X1:=zh hX;clear hR hX)
  | (go_at_call 6;refine Calls.mono (zu HR _ _ _ (zu R1 _)) ?_;rintro e w3 ⟨hX,eb,ec,x2,x3,x4,x5,x6,x7,rfl,hev⟩;have X3:=zh (((zu X1).trans (Ext.alloc _ _)).trans hX);have HQ:=zh hev;clear hX hev))
 have E3:=zh (Ext.alloc w3 (obX eb 4 ec 0 x2 x3 x4 x5 x6 x7));have B3:=zh (Go.heap_alloc_new w3 (obX eb 4 ec 0 x2 x3 x4 x5 x6 x7))
 go_loopw [14,15] (fun to t wr => ∃ (k m:Nat),to = .int .i64 m∧t = .int .i64 k∧k≤4∧m=k / 2∧Hd (Ext (w3.alloc (obX eb 4 ec 0 x2 x3 x4 x5 x6 x7)) wr)) (fun _ t _ => 4 - (intOf t).toNat)
 case atStart=>exact⟨0,0,rfl,rfl,by omega,rfl,Ext.refl _⟩
 case round =>
  obtain⟨k,m,rfl,rfl,hk,hm,hX⟩:=hrel;have hb:=(zu hX).row (zu B3);have b0:wr.cell? ⟨w3.heap.size,0,none⟩=some (.slice (some ⟨eb,0,none⟩) 4 ec):=zr hb 0 rfl;have b1:=zr hb 1 rfl;have b2:=zr hb 2 rfl;have b6:=zr hb 6 rfl;have r0:wr.cell? ⟨eb,0,none⟩=some (.int .i64 1):=(zu hX).cell ((zu E3).cell (zu HQ 0 (by decide)));have r1:wr.cell? ⟨eb,7,none⟩=some (.int .i64 2):=(zu hX).cell ((zu E3).cell (zu HQ 1 (by decide)));have r2:wr.cell? ⟨eb,14,none⟩=some (.int .i64 1):=(zu hX).cell ((zu E3).cell (zu HQ 2 (by decide)));have r3:wr.cell? ⟨eb,21,none⟩=some (.int .i64 2):=(zu hX).cell ((zu E3).cell (zu HQ 3 (by decide)));rcases (by omega:k=0∨k=1∨k=2∨k=3∨k=4) with rfl | rfl | rfl | rfl | rfl
  ·have hm2:m=0:=by omega
   clear hm hk;subst hm2
   go_wp2_with fail
   go_roundw
   case rel=>exact⟨1,0,rfl,by go_num,by omega,by omega,hX⟩
   case measure=>simp[intOf]
  ·have hm2:m=0:=by omega
   clear hm hk;subst hm2
   go_wp2_with fail
   go_roundw
   case rel=>exact⟨2,1,rfl,by go_num,by omega,by omega,hX⟩
   case measure=>simp[intOf]
  ·have hm2:m=1:=by omega
   clear hm hk;subst hm2
   go_wp2_with fail
   go_roundw
   case rel=>exact⟨3,1,rfl,by go_num,by omega,by omega,hX⟩
   case measure=>simp[intOf]
  ·have hm2:m=1:=by omega
   clear hm hk;subst hm2
   go_wp2_with fail
   go_roundw
   case rel=>exact⟨4,2,rfl,by go_num,by omega,by omega,hX⟩
   case measure=>simp[intOf]
  ·have hm2:m=2:=by omega
   clear hm hk;subst hm2
   go_wp2_with (go_at_call 7;refine Calls.mono (zu HA _) ?_;rintro e w5 ⟨rfl,h5⟩;have X5:=zh ((((zu X3).trans (zu E3)).trans (zu hX)).trans h5);clear h5)
   go_ret;exact⟨rfl,zu X5⟩
theorem s_ftf (pr:List V.KF) (w:World) (HM:Hd (MdX false true false pr)) (HR:Hd (RuX 2 0 pr)) (HA:Hd AwX) :
  Calls Tryz.prog 3 #[.bool false,.bool true,.bool false] w fun e w'=>e = .returned (.bool true)∧Ext w w':=by
 have HT:=zh (fun (x:Bool) (W:World)=>text_X x W)
 go_enter Tryz.func3,Tryz.ntmps3
 go_wp2_with (first
  | (go_at_call 4;refine Calls.mono (zu HT _ _) ?_;rintro e wq ⟨rfl,hw⟩;obtain rfl:=hw.symm)
  | (go_at_call 5;refine Calls.mono (zu HM _ _ (by kernel_rfl)) ?_;rintro e w1 ⟨pa,pc,rfl,hR,hX⟩;have R1:=zh (fun ob=>V.RepP.ext hR (Ext.alloc w1 ob));have X1:=zh hX;clear hR hX)
  | (go_at_call 6;refine Calls.mono (zu HR _ _ _ (zu R1 _)) ?_;rintro e w3 ⟨hX,eb,ec,x2,x3,x4,x5,x6,x7,rfl,hev⟩;have X3:=zh (((zu X1).trans (Ext.alloc _ _)).trans hX);have HQ:=zh hev;clear hX hev))
 have E3:=zh (Ext.alloc w3 (obX eb 2 ec 0 x2 x3 x4 x5 x6 x7));have B3:=zh (Go.heap_alloc_new w3 (obX eb 2 ec 0 x2 x3 x4 x5 x6 x7))
 go_loopw [14,15] (fun to t wr => ∃ (k m:Nat),to = .int .i64 m∧t = .int .i64 k∧k≤2∧m=k / 2∧Hd (Ext (w3.alloc (obX eb 2 ec 0 x2 x3 x4 x5 x6 x7)) wr)) (fun _ t _ => 2 - (intOf t).toNat)
 case atStart=>exact⟨0,0,rfl,rfl,by omega,rfl,Ext.refl _⟩
 case round =>
  obtain⟨k,m,rfl,rfl,hk,hm,hX⟩:=hrel;have hb:=(zu hX).row (zu B3);have b0:wr.cell? ⟨w3.heap.size,0,none⟩=some (.slice (some ⟨eb,0,none⟩) 2 ec):=zr hb 0 rfl;have b1:=zr hb 1 rfl;have b2:=zr hb 2 rfl;have b6:=zr hb 6 rfl;have r0:wr.cell? ⟨eb,0,none⟩=some (.int .i64 1):=(zu hX).cell ((zu E3).cell (zu HQ 0 (by decide)));have r1:wr.cell? ⟨eb,7,none⟩=some (.int .i64 2):=(zu hX).cell ((zu E3).cell (zu HQ 1 (by decide)));rcases (by omega:k=0∨k=1∨k=2) with rfl | rfl | rfl
  ·have hm2:m=0:=by omega
   clear hm hk;subst hm2
   go_wp2_with fail
   go_roundw
   case rel=>exact⟨1,0,rfl,by go_num,by omega,by omega,hX⟩
   case measure=>simp[intOf]
  ·have hm2:m=0:=by omega
   clear hm hk;subst hm2
   go_wp2_with fail
   go_roundw
   case rel=>exact⟨2,1,rfl,by go_num,by omega,by omega,hX⟩
   case measure=>simp[intOf]
  ·have hm2:m=1:=by omega
   clear hm hk;subst hm2
   go_wp2_with (go_at_call 7;refine Calls.mono (zu HA _) ?_;rintro e w5 ⟨rfl,h5⟩;have X5:=zh ((((zu X3).trans (zu E3)).trans (zu hX)).trans h5);clear h5)
   go_ret;exact⟨rfl,zu X5⟩
theorem s_ftt (pr:List V.KF) (w:World) (HM:Hd (MdX false true true pr)) (HR:Hd (RuX 4 1 pr)) (HA:Hd AwX) :
  Calls Tryz.prog 3 #[.bool false,.bool true,.bool true] w fun e w'=>e = .returned (.bool true)∧Ext w w':=by
 have HT:=zh (fun (x:Bool) (W:World)=>text_X x W)
 go_enter Tryz.func3,Tryz.ntmps3
 go_wp2_with (first
  | (go_at_call 4;refine Calls.mono (zu HT _ _) ?_;rintro e wq ⟨rfl,hw⟩;obtain rfl:=hw.symm)
  | (go_at_call 5;refine Calls.mono (zu HM _ _ (by kernel_rfl)) ?_;rintro e w1 ⟨pa,pc,rfl,hR,hX⟩;have R1:=zh (fun ob=>V.RepP.ext hR (Ext.alloc w1 ob));have X1:=zh hX;clear hR hX)
  | (go_at_call 6;refine Calls.mono (zu HR _ _ _ (zu R1 _)) ?_;rintro e w3 ⟨hX,eb,ec,x2,x3,x4,x5,x6,x7,rfl,hev⟩;have X3:=zh (((zu X1).trans (Ext.alloc _ _)).trans hX);have HQ:=zh hev;clear hX hev))
 have E3:=zh (Ext.alloc w3 (obX eb 4 ec 1 x2 x3 x4 x5 x6 x7));have B3:=zh (Go.heap_alloc_new w3 (obX eb 4 ec 1 x2 x3 x4 x5 x6 x7))
 go_loopw [14,15] (fun to t wr => ∃ (k m:Nat),to = .int .i64 m∧t = .int .i64 k∧k≤4∧m=k / 2∧Hd (Ext (w3.alloc (obX eb 4 ec 1 x2 x3 x4 x5 x6 x7)) wr)) (fun _ t _ => 4 - (intOf t).toNat)
 case atStart=>exact⟨0,0,rfl,rfl,by omega,rfl,Ext.refl _⟩
 case round =>
  obtain⟨k,m,rfl,rfl,hk,hm,hX⟩:=hrel;have hb:=(zu hX).row (zu B3);have b0:wr.cell? ⟨w3.heap.size,0,none⟩=some (.slice (some ⟨eb,0,none⟩) 4 ec):=zr hb 0 rfl;have b1:=zr hb 1 rfl;have b2:=zr hb 2 rfl;have b6:=zr hb 6 rfl;have r0:wr.cell? ⟨eb,0,none⟩=some (.int .i64 1):=(zu hX).cell ((zu E3).cell (zu HQ 0 (by decide)));have r1:wr.cell? ⟨eb,7,none⟩=some (.int .i64 2):=(zu hX).cell ((zu E3).cell (zu HQ 1 (by decide)));have r2:wr.cell? ⟨eb,14,none⟩=some (.int .i64 1):=(zu hX).cell ((zu E3).cell (zu HQ 2 (by decide)));have r3:wr.cell? ⟨eb,21,none⟩=some (.int .i64 2):=(zu hX).cell ((zu E3).cell (zu HQ 3 (by decide)));rcases (by omega:k=0∨k=1∨k=2∨k=3∨k=4) with rfl | rfl | rfl | rfl | rfl
  ·have hm2:m=0:=by omega
   clear hm hk;subst hm2
   go_wp2_with fail
   go_roundw
   case rel=>exact⟨1,0,rfl,by go_num,by omega,by omega,hX⟩
   case measure=>simp[intOf]
  ·have hm2:m=0:=by omega
   clear hm hk;subst hm2
   go_wp2_with fail
   go_roundw
   case rel=>exact⟨2,1,rfl,by go_num,by omega,by omega,hX⟩
   case measure=>simp[intOf]
  ·have hm2:m=1:=by omega
   clear hm hk;subst hm2
   go_wp2_with fail
   go_roundw
   case rel=>exact⟨3,1,rfl,by go_num,by omega,by omega,hX⟩
   case measure=>simp[intOf]
  ·have hm2:m=1:=by omega
   clear hm hk;subst hm2
   go_wp2_with fail
   go_roundw
   case rel=>exact⟨4,2,rfl,by go_num,by omega,by omega,hX⟩
   case measure=>simp[intOf]
  ·have hm2:m=2:=by omega
   clear hm hk;subst hm2
   go_wp2_with (go_at_call 7;refine Calls.mono (zu HA _) ?_;rintro e w5 ⟨rfl,h5⟩;have X5:=zh ((((zu X3).trans (zu E3)).trans (zu hX)).trans h5);clear h5)
   go_ret;exact⟨rfl,zu X5⟩
theorem s_tff (pr:List V.KF) (w:World) (HM:Hd (MdX true false false pr)) (HR:Hd (RuX 4 0 pr)) (HA:Hd AwX) :
  Calls Tryz.prog 3 #[.bool true,.bool false,.bool false] w fun e w'=>e = .returned (.bool true)∧Ext w w':=by
 have HT:=zh (fun (x:Bool) (W:World)=>text_X x W)
 go_enter Tryz.func3,Tryz.ntmps3
 go_wp2_with (first
  | (go_at_call 4;refine Calls.mono (zu HT _ _) ?_;rintro e wq ⟨rfl,hw⟩;obtain rfl:=hw.symm)
  | (go_at_call 5;refine Calls.mono (zu HM _ _ (by kernel_rfl)) ?_;rintro e w1 ⟨pa,pc,rfl,hR,hX⟩;have R1:=zh (fun ob=>V.RepP.ext hR (Ext.alloc w1 ob));have X1:=zh hX;clear hR hX)
  | (go_at_call 6;refine Calls.mono (zu HR _ _ _ (zu R1 _)) ?_;rintro e w3 ⟨hX,eb,ec,x2,x3,x4,x5,x6,x7,rfl,hev⟩;have X3:=zh (((zu X1).trans (Ext.alloc _ _)).trans hX);have HQ:=zh hev;clear hX hev))
 have E3:=zh (Ext.alloc w3 (obX eb 4 ec 0 x2 x3 x4 x5 x6 x7));have B3:=zh (Go.heap_alloc_new w3 (obX eb 4 ec 0 x2 x3 x4 x5 x6 x7))
 go_loopw [14,15] (fun to t wr => ∃ (k m:Nat),to = .int .i64 m∧t = .int .i64 k∧k≤4∧m=k / 2∧Hd (Ext (w3.alloc (obX eb 4 ec 0 x2 x3 x4 x5 x6 x7)) wr)) (fun _ t _ => 4 - (intOf t).toNat)
 case atStart=>exact⟨0,0,rfl,rfl,by omega,rfl,Ext.refl _⟩
 case round =>
  obtain⟨k,m,rfl,rfl,hk,hm,hX⟩:=hrel;have hb:=(zu hX).row (zu B3);have b0:wr.cell? ⟨w3.heap.size,0,none⟩=some (.slice (some ⟨eb,0,none⟩) 4 ec):=zr hb 0 rfl;have b1:=zr hb 1 rfl;have b2:=zr hb 2 rfl;have b6:=zr hb 6 rfl;have r0:wr.cell? ⟨eb,0,none⟩=some (.int .i64 1):=(zu hX).cell ((zu E3).cell (zu HQ 0 (by decide)));have r1:wr.cell? ⟨eb,7,none⟩=some (.int .i64 2):=(zu hX).cell ((zu E3).cell (zu HQ 1 (by decide)));have r2:wr.cell? ⟨eb,14,none⟩=some (.int .i64 1):=(zu hX).cell ((zu E3).cell (zu HQ 2 (by decide)));have r3:wr.cell? ⟨eb,21,none⟩=some (.int .i64 2):=(zu hX).cell ((zu E3).cell (zu HQ 3 (by decide)));rcases (by omega:k=0∨k=1∨k=2∨k=3∨k=4) with rfl | rfl | rfl | rfl | rfl
  ·have hm2:m=0:=by omega
   clear hm hk;subst hm2
   go_wp2_with fail
   go_roundw
   case rel=>exact⟨1,0,rfl,by go_num,by omega,by omega,hX⟩
   case measure=>simp[intOf]
  ·have hm2:m=0:=by omega
   clear hm hk;subst hm2
   go_wp2_with fail
   go_roundw
   case rel=>exact⟨2,1,rfl,by go_num,by omega,by omega,hX⟩
   case measure=>simp[intOf]
  ·have hm2:m=1:=by omega
   clear hm hk;subst hm2
   go_wp2_with fail
   go_roundw
   case rel=>exact⟨3,1,rfl,by go_num,by omega,by omega,hX⟩
   case measure=>simp[intOf]
  ·have hm2:m=1:=by omega
   clear hm hk;subst hm2
   go_wp2_with fail
   go_roundw
   case rel=>exact⟨4,2,rfl,by go_num,by omega,by omega,hX⟩
   case measure=>simp[intOf]
  ·have hm2:m=2:=by omega
   clear hm hk;subst hm2
   go_wp2_with (go_at_call 7;refine Calls.mono (zu HA _) ?_;rintro e w5 ⟨rfl,h5⟩;have X5:=zh ((((zu X3).trans (zu E3)).trans (zu hX)).trans h5);clear h5)
   go_ret;exact⟨rfl,zu X5⟩
theorem s_tft (pr:List V.KF) (w:World) (HM:Hd (MdX true false true pr)) (HR:Hd (RuX 2 1 pr)) (HA:Hd AwX) :
  Calls Tryz.prog 3 #[.bool true,.bool false,.bool true] w fun e w'=>e = .returned (.bool true)∧Ext w w':=by
 have HT:=zh (fun (x:Bool) (W:World)=>text_X x W)
 go_enter Tryz.func3,Tryz.ntmps3
 go_wp2_with (first
  | (go_at_call 4;refine Calls.mono (zu HT _ _) ?_;rintro e wq ⟨rfl,hw⟩;obtain rfl:=hw.symm)
  | (go_at_call 5;refine Calls.mono (zu HM _ _ (by kernel_rfl)) ?_;rintro e w1 ⟨pa,pc,rfl,hR,hX⟩;have R1:=zh (fun ob=>V.RepP.ext hR (Ext.alloc w1 ob));have X1:=zh hX;clear hR hX)
  | (go_at_call 6;refine Calls.mono (zu HR _ _ _ (zu R1 _)) ?_;rintro e w3 ⟨hX,eb,ec,x2,x3,x4,x5,x6,x7,rfl,hev⟩;have X3:=zh (((zu X1).trans (Ext.alloc _ _)).trans hX);have HQ:=zh hev;clear hX hev))
 have E3:=zh (Ext.alloc w3 (obX eb 2 ec 1 x2 x3 x4 x5 x6 x7));have B3:=zh (Go.heap_alloc_new w3 (obX eb 2 ec 1 x2 x3 x4 x5 x6 x7))
 go_loopw [14,15] (fun to t wr => ∃ (k m:Nat),to = .int .i64 m∧t = .int .i64 k∧k≤2∧m=k / 2∧Hd (Ext (w3.alloc (obX eb 2 ec 1 x2 x3 x4 x5 x6 x7)) wr)) (fun _ t _ => 2 - (intOf t).toNat)
 case atStart=>exact⟨0,0,rfl,rfl,by omega,rfl,Ext.refl _⟩
 case round =>
  obtain⟨k,m,rfl,rfl,hk,hm,hX⟩:=hrel;have hb:=(zu hX).row (zu B3);have b0:wr.cell? ⟨w3.heap.size,0,none⟩=some (.slice (some ⟨eb,0,none⟩) 2 ec):=zr hb 0 rfl;have b1:=zr hb 1 rfl;have b2:=zr hb 2 rfl;have b6:=zr hb 6 rfl;have r0:wr.cell? ⟨eb,0,none⟩=some (.int .i64 1):=(zu hX).cell ((zu E3).cell (zu HQ 0 (by decide)));have r1:wr.cell? ⟨eb,7,none⟩=some (.int .i64 2):=(zu hX).cell ((zu E3).cell (zu HQ 1 (by decide)));rcases (by omega:k=0∨k=1∨k=2) with rfl | rfl | rfl
  ·have hm2:m=0:=by omega
   clear hm hk;subst hm2
   go_wp2_with fail
   go_roundw
   case rel=>exact⟨1,0,rfl,by go_num,by omega,by omega,hX⟩
   case measure=>simp[intOf]
  ·have hm2:m=0:=by omega
   clear hm hk;subst hm2
   go_wp2_with fail
   go_roundw
   case rel=>exact⟨2,1,rfl,by go_num,by omega,by omega,hX⟩
   case measure=>simp[intOf]
  ·have hm2:m=1:=by omega
   clear hm hk;subst hm2
   go_wp2_with (go_at_call 7;refine Calls.mono (zu HA _) ?_;rintro e w5 ⟨rfl,h5⟩;have X5:=zh ((((zu X3).trans (zu E3)).trans (zu hX)).trans h5);clear h5)
   go_ret;exact⟨rfl,zu X5⟩
theorem s_ttf (pr:List V.KF) (w:World) (HM:Hd (MdX true true false pr)) (HR:Hd (RuX 4 1 pr)) (HA:Hd AwX) :
  Calls Tryz.prog 3 #[.bool true,.bool true,.bool false] w fun e w'=>e = .returned (.bool true)∧Ext w w':=by
 have HT:=zh (fun (x:Bool) (W:World)=>text_X x W)
 go_enter Tryz.func3,Tryz.ntmps3
 go_wp2_with (first
  | (go_at_call 4;refine Calls.mono (zu HT _ _) ?_;rintro e wq ⟨rfl,hw⟩;obtain rfl:=hw.symm)
  | (go_at_call 5;refine Calls.mono (zu HM _ _ (by kernel_rfl)) ?_;rintro e w1 ⟨pa,pc,rfl,hR,hX⟩;have R1:=zh (fun ob=>V.RepP.ext hR (Ext.alloc w1 ob));have X1:=zh hX;clear hR hX)
  | (go_at_call 6;refine Calls.mono (zu HR _ _ _ (zu R1 _)) ?_;rintro e w3 ⟨hX,eb,ec,x2,x3,x4,x5,x6,x7,rfl,hev⟩;have X3:=zh (((zu X1).trans (Ext.alloc _ _)).trans hX);have HQ:=zh hev;clear hX hev))
 have E3:=zh (Ext.alloc w3 (obX eb 4 ec 1 x2 x3 x4 x5 x6 x7));have B3:=zh (Go.heap_alloc_new w3 (obX eb 4 ec 1 x2 x3 x4 x5 x6 x7))
 go_loopw [14,15] (fun to t wr => ∃ (k m:Nat),to = .int .i64 m∧t = .int .i64 k∧k≤4∧m=k / 2∧Hd (Ext (w3.alloc (obX eb 4 ec 1 x2 x3 x4 x5 x6 x7)) wr)) (fun _ t _ => 4 - (intOf t).toNat)
 case atStart=>exact⟨0,0,rfl,rfl,by omega,rfl,Ext.refl _⟩
 case round =>
  obtain⟨k,m,rfl,rfl,hk,hm,hX⟩:=hrel;have hb:=(zu hX).row (zu B3);have b0:wr.cell? ⟨w3.heap.size,0,none⟩=some (.slice (some ⟨eb,0,none⟩) 4 ec):=zr hb 0 rfl;have b1:=zr hb 1 rfl;have b2:=zr hb 2 rfl;have b6:=zr hb 6 rfl;have r0:wr.cell? ⟨eb,0,none⟩=some (.int .i64 1):=(zu hX).cell ((zu E3).cell (zu HQ 0 (by decide)));have r1:wr.cell? ⟨eb,7,none⟩=some (.int .i64 2):=(zu hX).cell ((zu E3).cell (zu HQ 1 (by decide)));have r2:wr.cell? ⟨eb,14,none⟩=some (.int .i64 1):=(zu hX).cell ((zu E3).cell (zu HQ 2 (by decide)));have r3:wr.cell? ⟨eb,21,none⟩=some (.int .i64 2):=(zu hX).cell ((zu E3).cell (zu HQ 3 (by decide)));rcases (by omega:k=0∨k=1∨k=2∨k=3∨k=4) with rfl | rfl | rfl | rfl | rfl
  ·have hm2:m=0:=by omega
   clear hm hk;subst hm2
   go_wp2_with fail
   go_roundw
   case rel=>exact⟨1,0,rfl,by go_num,by omega,by omega,hX⟩
   case measure=>simp[intOf]
  ·have hm2:m=0:=by omega
   clear hm hk;subst hm2
   go_wp2_with fail
   go_roundw
   case rel=>exact⟨2,1,rfl,by go_num,by omega,by omega,hX⟩
   case measure=>simp[intOf]
  ·have hm2:m=1:=by omega
   clear hm hk;subst hm2
   go_wp2_with fail
   go_roundw
   case rel=>exact⟨3,1,rfl,by go_num,by omega,by omega,hX⟩
   case measure=>simp[intOf]
  ·have hm2:m=1:=by omega
   clear hm hk;subst hm2
   go_wp2_with fail
   go_roundw
   case rel=>exact⟨4,2,rfl,by go_num,by omega,by omega,hX⟩
   case measure=>simp[intOf]
  ·have hm2:m=2:=by omega
   clear hm hk;subst hm2
   go_wp2_with (go_at_call 7;refine Calls.mono (zu HA _) ?_;rintro e w5 ⟨rfl,h5⟩;have X5:=zh ((((zu X3).trans (zu E3)).trans (zu hX)).trans h5);clear h5)
   go_ret;exact⟨rfl,zu X5⟩
theorem s_ttt (pr:List V.KF) (w:World) (HM:Hd (MdX true true true pr)) (HR:Hd (RuX 2 1 pr)) (HA:Hd AwX) :
  Calls Tryz.prog 3 #[.bool true,.bool true,.bool true] w fun e w'=>e = .returned (.bool true)∧Ext w w':=by
 have HT:=zh (fun (x:Bool) (W:World)=>text_X x W)
 go_enter Tryz.func3,Tryz.ntmps3
 go_wp2_with (first
  | (go_at_call 4;refine Calls.mono (zu HT _ _) ?_;rintro e wq ⟨rfl,hw⟩;obtain rfl:=hw.symm)
  | (go_at_call 5;refine Calls.mono (zu HM _ _ (by kernel_rfl)) ?_;rintro e w1 ⟨pa,pc,rfl,hR,hX⟩;have R1:=zh (fun ob=>V.RepP.ext hR (Ext.alloc w1 ob));have X1:=zh hX;clear hR hX)
  | (go_at_call 6;refine Calls.mono (zu HR _ _ _ (zu R1 _)) ?_;rintro e w3 ⟨hX,eb,ec,x2,x3,x4,x5,x6,x7,rfl,hev⟩;have X3:=zh (((zu X1).trans (Ext.alloc _ _)).trans hX);have HQ:=zh hev;clear hX hev))
 have E3:=zh (Ext.alloc w3 (obX eb 2 ec 1 x2 x3 x4 x5 x6 x7));have B3:=zh (Go.heap_alloc_new w3 (obX eb 2 ec 1 x2 x3 x4 x5 x6 x7))
 go_loopw [14,15] (fun to t wr => ∃ (k m:Nat),to = .int .i64 m∧t = .int .i64 k∧k≤2∧m=k / 2∧Hd (Ext (w3.alloc (obX eb 2 ec 1 x2 x3 x4 x5 x6 x7)) wr)) (fun _ t _ => 2 - (intOf t).toNat)
 case atStart=>exact⟨0,0,rfl,rfl,by omega,rfl,Ext.refl _⟩
 case round =>
  obtain⟨k,m,rfl,rfl,hk,hm,hX⟩:=hrel;have hb:=(zu hX).row (zu B3);have b0:wr.cell? ⟨w3.heap.size,0,none⟩=some (.slice (some ⟨eb,0,none⟩) 2 ec):=zr hb 0 rfl;have b1:=zr hb 1 rfl;have b2:=zr hb 2 rfl;have b6:=zr hb 6 rfl;have r0:wr.cell? ⟨eb,0,none⟩=some (.int .i64 1):=(zu hX).cell ((zu E3).cell (zu HQ 0 (by decide)));have r1:wr.cell? ⟨eb,7,none⟩=some (.int .i64 2):=(zu hX).cell ((zu E3).cell (zu HQ 1 (by decide)));rcases (by omega:k=0∨k=1∨k=2) with rfl | rfl | rfl
  ·have hm2:m=0:=by omega
   clear hm hk;subst hm2
   go_wp2_with fail
   go_roundw
   case rel=>exact⟨1,0,rfl,by go_num,by omega,by omega,hX⟩
   case measure=>simp[intOf]
  ·have hm2:m=0:=by omega
   clear hm hk;subst hm2
   go_wp2_with fail
   go_roundw
   case rel=>exact⟨2,1,rfl,by go_num,by omega,by omega,hX⟩
   case measure=>simp[intOf]
  ·have hm2:m=1:=by omega
   clear hm hk;subst hm2
   go_wp2_with (go_at_call 7;refine Calls.mono (zu HA _) ?_;rintro e w5 ⟨rfl,h5⟩;have X5:=zh ((((zu X3).trans (zu E3)).trans (zu hX)).trans h5);clear h5)
   go_ret;exact⟨rfl,zu X5⟩
end
end Go.Proofs.YtjnpehohialmbaaGreat
