/- The walk of the law StackForms. -/
import Derived.Test.YtggpehmljpanjaaStkFo
set_option linter.unusedSimpArgs false
set_option linter.unusedVariables false
set_option maxRecDepth 10000
namespace Go.Proofs.Ytggpehmljpanjaa
open Go.RowKit

theorem foF_b (i : KI) (h : -100000 ≤ i.a ∧ i.a ≤ 100000 ∧ -100000 ≤ i.b ∧ i.b ≤ 100000) : KfB [foF i] := by
  intro f hf
  rw [List.mem_singleton.1 hf]
  refine ⟨by simp [foF], ?_, ?_⟩
  · simp only [foF, foC]
    split <;> simp
  · intro j hj
    simp only [foF, foC] at hj
    have hk : j = ⟨1, 0, 0⟩ ∨ j = ⟨10, 0, 0⟩ ∨ j = i ∨ j = ⟨4, 0, 0⟩ := by
      split at hj
      · simpa using hj
      · simp at hj
        rcases hj with h | h | h
        · exact Or.inl h
        · exact Or.inr (Or.inl h)
        · exact Or.inr (Or.inr (Or.inl h))
    rcases hk with rfl | rfl | rfl | rfl
    · decide
    · decide
    · omega
    · decide

theorem chk_fo (i : KI) (v : Int) (h : -100000 ≤ i.a ∧ i.a ≤ 100000 ∧ -100000 ≤ i.b ∧ i.b ≤ 100000) (hv : kChk [foF i] 0 100 = some v) (pa : Option Addr) (W : World) (hp : RepP W (In W) pa [foF i]) :
    Calls Try.prog 8 #[kpV pa 1 1 0] W fun e w' => e = .returned (.int .i64 v) ∧ Ext W w' := check_sw [foF i] pa 1 0 100 v W hp (by simp) (foF_b i h) (by omega) hv

theorem fo_g0 : kChk [foF ⟨1, 1, 0⟩] 0 100 = some 0 := by decide +kernel
theorem fo_b00 : kChk [foF ⟨1, 2, 0⟩] 0 100 = some 3 := by decide +kernel
theorem fo_b01 : kChk [foF ⟨1, (-1), 0⟩] 0 100 = some 3 := by decide +kernel
theorem fo_g1 : kChk [foF ⟨2, 2, 0⟩] 0 100 = some 0 := by decide +kernel
theorem fo_b10 : kChk [foF ⟨2, 3, 0⟩] 0 100 = some 3 := by decide +kernel
theorem fo_b11 : kChk [foF ⟨2, (-1), 0⟩] 0 100 = some 3 := by decide +kernel
theorem fo_g2 : kChk [foF ⟨3, 2, 0⟩] 0 100 = some 0 := by decide +kernel
theorem fo_b20 : kChk [foF ⟨3, 3, 0⟩] 0 100 = some 3 := by decide +kernel
theorem fo_b21 : kChk [foF ⟨3, (-1), 0⟩] 0 100 = some 3 := by decide +kernel
theorem fo_g3 : kChk [foF ⟨5, 14, 0⟩] 0 100 = some 0 := by decide +kernel
theorem fo_b30 : kChk [foF ⟨5, 15, 0⟩] 0 100 = some 3 := by decide +kernel
theorem fo_b31 : kChk [foF ⟨5, (-1), 0⟩] 0 100 = some 3 := by decide +kernel
theorem fo_g4 : kChk [foF ⟨6, 20, 0⟩] 0 100 = some 0 := by decide +kernel
theorem fo_b40 : kChk [foF ⟨6, 21, 0⟩] 0 100 = some 3 := by decide +kernel
theorem fo_b41 : kChk [foF ⟨6, (-1), 0⟩] 0 100 = some 3 := by decide +kernel
theorem fo_g5 : kChk [foF ⟨7, 3, 0⟩] 0 100 = some 0 := by decide +kernel
theorem fo_b50 : kChk [foF ⟨7, 4, 0⟩] 0 100 = some 3 := by decide +kernel
theorem fo_b51 : kChk [foF ⟨7, (-1), 0⟩] 0 100 = some 3 := by decide +kernel
theorem fo_g6 : kChk [foF ⟨12, 4095, 0⟩] 0 100 = some 0 := by decide +kernel
theorem fo_b60 : kChk [foF ⟨12, 4096, 0⟩] 0 100 = some 3 := by decide +kernel
theorem fo_b61 : kChk [foF ⟨12, (-1), 0⟩] 0 100 = some 3 := by decide +kernel
theorem fo_g7 : kChk [foF ⟨13, 64, 0⟩] 0 100 = some 0 := by decide +kernel
theorem fo_b70 : kChk [foF ⟨13, 65, 0⟩] 0 100 = some 3 := by decide +kernel
theorem fo_b71 : kChk [foF ⟨13, (-1), 0⟩] 0 100 = some 3 := by decide +kernel
theorem fo_g8 : kChk [foF ⟨9, 0, 0⟩] 0 100 = some 0 := by decide +kernel
theorem fo_b80 : kChk [foF ⟨9, 0, 1⟩] 0 100 = some 3 := by decide +kernel
theorem fo_b81 : kChk [foF ⟨9, 0, 1⟩] 0 100 = some 3 := by decide +kernel

set_option maxHeartbeats 1000000 in
theorem forms_00 (a0 : Int) (w : World) (hk : (bits .and .i64 a0 65535).tmod 9 = 0) :
    Calls Try.prog 3 #[.int .i64 a0, .bool false] w fun e w' => e = .returned (.bool true) ∧ Ext w w' := by
  have HAw := hide (fun W => awake_s W)
  have O1 := hide (fun W => of_any ⟨1, 1, 0⟩ W)
  have O2 := hide (fun W => of_any ⟨1, 2, 0⟩ W)
  have C1 := hide (fun pa W => chk_fo ⟨1, 1, 0⟩ 0 (by decide) fo_g0 pa W)
  have C2 := hide (fun pa W => chk_fo ⟨1, 2, 0⟩ 3 (by decide) fo_b00 pa W)
  have HX : Hd (∀ o1 o2 o3 : Obj, Ext w (((w.alloc o1).alloc o2).alloc o3)) := fun o1 o2 o3 => (Ext.alloc _ _).trans ((Ext.alloc _ _).trans (Ext.alloc _ _))
  go_enter Try.func3, Try.ntmps3
  go_wp2_with (first
    | (have T1 := unhide O1; go_at_call 6; refine Calls.mono (T1 _) ?_; rintro e w1 ⟨p1, rfl, r1, hw⟩; have R1 := hide r1; have X1 := hide ((unhide HX _ _ _).trans hw); have b0 := hw.box 0 rfl; have b1 := hw.box 1 rfl; have b2 := hw.box 2 rfl; simp only [heap_alloc_size] at b0 b1 b2; clear r1 hw T1 O1)
    | (have T1 := unhide R1; go_at_call 8; refine Calls.mono (unhide C1 p1 _ T1) ?_; rintro e w2 ⟨rfl, hw⟩; have X2 := hide ((unhide X1).trans hw); have b0 := hw.cell b0; have b1 := hw.cell b1; have b2 := hw.cell b2; clear hw T1 R1)
    | (have T1 := unhide X2; have T2 := unhide O2; go_at_call 6; refine Calls.mono (T2 _) ?_; rintro e w3 ⟨p3, rfl, r3, hw⟩; have R3 := hide r3; have X3 := hide ((unhide X2).trans hw); clear r3 hw T1 T2 O2)
    | (have T1 := unhide R3; go_at_call 8; refine Calls.mono (unhide C2 p3 _ T1) ?_; rintro e w4 ⟨rfl, hw⟩; have X4 := hide ((unhide X3).trans hw); clear hw T1 R3)
    | (have T1 := unhide X4; go_at_call 9; refine Calls.mono (unhide HAw _) ?_; rintro e w5 ⟨rfl, hw⟩; have X5 := hide ((unhide X4).trans hw); clear hw T1))
  go_ret
  exact ⟨rfl, unhide X5⟩

set_option maxHeartbeats 1000000 in
theorem forms_01 (a0 : Int) (w : World) (hk : (bits .and .i64 a0 65535).tmod 9 = 0) :
    Calls Try.prog 3 #[.int .i64 a0, .bool true] w fun e w' => e = .returned (.bool true) ∧ Ext w w' := by
  have HAw := hide (fun W => awake_s W)
  have O1 := hide (fun W => of_any ⟨1, 1, 0⟩ W)
  have O2 := hide (fun W => of_any ⟨1, (-1), 0⟩ W)
  have C1 := hide (fun pa W => chk_fo ⟨1, 1, 0⟩ 0 (by decide) fo_g0 pa W)
  have C2 := hide (fun pa W => chk_fo ⟨1, (-1), 0⟩ 3 (by decide) fo_b01 pa W)
  have HX : Hd (∀ o1 o2 o3 : Obj, Ext w (((w.alloc o1).alloc o2).alloc o3)) := fun o1 o2 o3 => (Ext.alloc _ _).trans ((Ext.alloc _ _).trans (Ext.alloc _ _))
  go_enter Try.func3, Try.ntmps3
  go_wp2_with (first
    | (have T1 := unhide O1; go_at_call 6; refine Calls.mono (T1 _) ?_; rintro e w1 ⟨p1, rfl, r1, hw⟩; have R1 := hide r1; have X1 := hide ((unhide HX _ _ _).trans hw); have b0 := hw.box 0 rfl; have b1 := hw.box 1 rfl; have b2 := hw.box 2 rfl; simp only [heap_alloc_size] at b0 b1 b2; clear r1 hw T1 O1)
    | (have T1 := unhide R1; go_at_call 8; refine Calls.mono (unhide C1 p1 _ T1) ?_; rintro e w2 ⟨rfl, hw⟩; have X2 := hide ((unhide X1).trans hw); have b0 := hw.cell b0; have b1 := hw.cell b1; have b2 := hw.cell b2; clear hw T1 R1)
    | (have T1 := unhide X2; have T2 := unhide O2; go_at_call 6; refine Calls.mono (T2 _) ?_; rintro e w3 ⟨p3, rfl, r3, hw⟩; have R3 := hide r3; have X3 := hide ((unhide X2).trans hw); clear r3 hw T1 T2 O2)
    | (have T1 := unhide R3; go_at_call 8; refine Calls.mono (unhide C2 p3 _ T1) ?_; rintro e w4 ⟨rfl, hw⟩; have X4 := hide ((unhide X3).trans hw); clear hw T1 R3)
    | (have T1 := unhide X4; go_at_call 9; refine Calls.mono (unhide HAw _) ?_; rintro e w5 ⟨rfl, hw⟩; have X5 := hide ((unhide X4).trans hw); clear hw T1))
  go_ret
  exact ⟨rfl, unhide X5⟩

set_option maxHeartbeats 1000000 in
theorem forms_10 (a0 : Int) (w : World) (hk : (bits .and .i64 a0 65535).tmod 9 = 1) :
    Calls Try.prog 3 #[.int .i64 a0, .bool false] w fun e w' => e = .returned (.bool true) ∧ Ext w w' := by
  have HAw := hide (fun W => awake_s W)
  have O1 := hide (fun W => of_any ⟨2, 2, 0⟩ W)
  have O2 := hide (fun W => of_any ⟨2, 3, 0⟩ W)
  have C1 := hide (fun pa W => chk_fo ⟨2, 2, 0⟩ 0 (by decide) fo_g1 pa W)
  have C2 := hide (fun pa W => chk_fo ⟨2, 3, 0⟩ 3 (by decide) fo_b10 pa W)
  have HX : Hd (∀ o1 o2 o3 : Obj, Ext w (((w.alloc o1).alloc o2).alloc o3)) := fun o1 o2 o3 => (Ext.alloc _ _).trans ((Ext.alloc _ _).trans (Ext.alloc _ _))
  go_enter Try.func3, Try.ntmps3
  go_wp2_with (first
    | (have T1 := unhide O1; go_at_call 6; refine Calls.mono (T1 _) ?_; rintro e w1 ⟨p1, rfl, r1, hw⟩; have R1 := hide r1; have X1 := hide ((unhide HX _ _ _).trans hw); have b0 := hw.box 0 rfl; have b1 := hw.box 1 rfl; have b2 := hw.box 2 rfl; simp only [heap_alloc_size] at b0 b1 b2; clear r1 hw T1 O1)
    | (have T1 := unhide R1; go_at_call 8; refine Calls.mono (unhide C1 p1 _ T1) ?_; rintro e w2 ⟨rfl, hw⟩; have X2 := hide ((unhide X1).trans hw); have b0 := hw.cell b0; have b1 := hw.cell b1; have b2 := hw.cell b2; clear hw T1 R1)
    | (have T1 := unhide X2; have T2 := unhide O2; go_at_call 6; refine Calls.mono (T2 _) ?_; rintro e w3 ⟨p3, rfl, r3, hw⟩; have R3 := hide r3; have X3 := hide ((unhide X2).trans hw); clear r3 hw T1 T2 O2)
    | (have T1 := unhide R3; go_at_call 8; refine Calls.mono (unhide C2 p3 _ T1) ?_; rintro e w4 ⟨rfl, hw⟩; have X4 := hide ((unhide X3).trans hw); clear hw T1 R3)
    | (have T1 := unhide X4; go_at_call 9; refine Calls.mono (unhide HAw _) ?_; rintro e w5 ⟨rfl, hw⟩; have X5 := hide ((unhide X4).trans hw); clear hw T1))
  go_ret
  exact ⟨rfl, unhide X5⟩

set_option maxHeartbeats 1000000 in
theorem forms_11 (a0 : Int) (w : World) (hk : (bits .and .i64 a0 65535).tmod 9 = 1) :
    Calls Try.prog 3 #[.int .i64 a0, .bool true] w fun e w' => e = .returned (.bool true) ∧ Ext w w' := by
  have HAw := hide (fun W => awake_s W)
  have O1 := hide (fun W => of_any ⟨2, 2, 0⟩ W)
  have O2 := hide (fun W => of_any ⟨2, (-1), 0⟩ W)
  have C1 := hide (fun pa W => chk_fo ⟨2, 2, 0⟩ 0 (by decide) fo_g1 pa W)
  have C2 := hide (fun pa W => chk_fo ⟨2, (-1), 0⟩ 3 (by decide) fo_b11 pa W)
  have HX : Hd (∀ o1 o2 o3 : Obj, Ext w (((w.alloc o1).alloc o2).alloc o3)) := fun o1 o2 o3 => (Ext.alloc _ _).trans ((Ext.alloc _ _).trans (Ext.alloc _ _))
  go_enter Try.func3, Try.ntmps3
  go_wp2_with (first
    | (have T1 := unhide O1; go_at_call 6; refine Calls.mono (T1 _) ?_; rintro e w1 ⟨p1, rfl, r1, hw⟩; have R1 := hide r1; have X1 := hide ((unhide HX _ _ _).trans hw); have b0 := hw.box 0 rfl; have b1 := hw.box 1 rfl; have b2 := hw.box 2 rfl; simp only [heap_alloc_size] at b0 b1 b2; clear r1 hw T1 O1)
    | (have T1 := unhide R1; go_at_call 8; refine Calls.mono (unhide C1 p1 _ T1) ?_; rintro e w2 ⟨rfl, hw⟩; have X2 := hide ((unhide X1).trans hw); have b0 := hw.cell b0; have b1 := hw.cell b1; have b2 := hw.cell b2; clear hw T1 R1)
    | (have T1 := unhide X2; have T2 := unhide O2; go_at_call 6; refine Calls.mono (T2 _) ?_; rintro e w3 ⟨p3, rfl, r3, hw⟩; have R3 := hide r3; have X3 := hide ((unhide X2).trans hw); clear r3 hw T1 T2 O2)
    | (have T1 := unhide R3; go_at_call 8; refine Calls.mono (unhide C2 p3 _ T1) ?_; rintro e w4 ⟨rfl, hw⟩; have X4 := hide ((unhide X3).trans hw); clear hw T1 R3)
    | (have T1 := unhide X4; go_at_call 9; refine Calls.mono (unhide HAw _) ?_; rintro e w5 ⟨rfl, hw⟩; have X5 := hide ((unhide X4).trans hw); clear hw T1))
  go_ret
  exact ⟨rfl, unhide X5⟩

set_option maxHeartbeats 1000000 in
theorem forms_20 (a0 : Int) (w : World) (hk : (bits .and .i64 a0 65535).tmod 9 = 2) :
    Calls Try.prog 3 #[.int .i64 a0, .bool false] w fun e w' => e = .returned (.bool true) ∧ Ext w w' := by
  have HAw := hide (fun W => awake_s W)
  have O1 := hide (fun W => of_any ⟨3, 2, 0⟩ W)
  have O2 := hide (fun W => of_any ⟨3, 3, 0⟩ W)
  have C1 := hide (fun pa W => chk_fo ⟨3, 2, 0⟩ 0 (by decide) fo_g2 pa W)
  have C2 := hide (fun pa W => chk_fo ⟨3, 3, 0⟩ 3 (by decide) fo_b20 pa W)
  have HX : Hd (∀ o1 o2 o3 : Obj, Ext w (((w.alloc o1).alloc o2).alloc o3)) := fun o1 o2 o3 => (Ext.alloc _ _).trans ((Ext.alloc _ _).trans (Ext.alloc _ _))
  go_enter Try.func3, Try.ntmps3
  go_wp2_with (first
    | (have T1 := unhide O1; go_at_call 6; refine Calls.mono (T1 _) ?_; rintro e w1 ⟨p1, rfl, r1, hw⟩; have R1 := hide r1; have X1 := hide ((unhide HX _ _ _).trans hw); have b0 := hw.box 0 rfl; have b1 := hw.box 1 rfl; have b2 := hw.box 2 rfl; simp only [heap_alloc_size] at b0 b1 b2; clear r1 hw T1 O1)
    | (have T1 := unhide R1; go_at_call 8; refine Calls.mono (unhide C1 p1 _ T1) ?_; rintro e w2 ⟨rfl, hw⟩; have X2 := hide ((unhide X1).trans hw); have b0 := hw.cell b0; have b1 := hw.cell b1; have b2 := hw.cell b2; clear hw T1 R1)
    | (have T1 := unhide X2; have T2 := unhide O2; go_at_call 6; refine Calls.mono (T2 _) ?_; rintro e w3 ⟨p3, rfl, r3, hw⟩; have R3 := hide r3; have X3 := hide ((unhide X2).trans hw); clear r3 hw T1 T2 O2)
    | (have T1 := unhide R3; go_at_call 8; refine Calls.mono (unhide C2 p3 _ T1) ?_; rintro e w4 ⟨rfl, hw⟩; have X4 := hide ((unhide X3).trans hw); clear hw T1 R3)
    | (have T1 := unhide X4; go_at_call 9; refine Calls.mono (unhide HAw _) ?_; rintro e w5 ⟨rfl, hw⟩; have X5 := hide ((unhide X4).trans hw); clear hw T1))
  go_ret
  exact ⟨rfl, unhide X5⟩

set_option maxHeartbeats 1000000 in
theorem forms_21 (a0 : Int) (w : World) (hk : (bits .and .i64 a0 65535).tmod 9 = 2) :
    Calls Try.prog 3 #[.int .i64 a0, .bool true] w fun e w' => e = .returned (.bool true) ∧ Ext w w' := by
  have HAw := hide (fun W => awake_s W)
  have O1 := hide (fun W => of_any ⟨3, 2, 0⟩ W)
  have O2 := hide (fun W => of_any ⟨3, (-1), 0⟩ W)
  have C1 := hide (fun pa W => chk_fo ⟨3, 2, 0⟩ 0 (by decide) fo_g2 pa W)
  have C2 := hide (fun pa W => chk_fo ⟨3, (-1), 0⟩ 3 (by decide) fo_b21 pa W)
  have HX : Hd (∀ o1 o2 o3 : Obj, Ext w (((w.alloc o1).alloc o2).alloc o3)) := fun o1 o2 o3 => (Ext.alloc _ _).trans ((Ext.alloc _ _).trans (Ext.alloc _ _))
  go_enter Try.func3, Try.ntmps3
  go_wp2_with (first
    | (have T1 := unhide O1; go_at_call 6; refine Calls.mono (T1 _) ?_; rintro e w1 ⟨p1, rfl, r1, hw⟩; have R1 := hide r1; have X1 := hide ((unhide HX _ _ _).trans hw); have b0 := hw.box 0 rfl; have b1 := hw.box 1 rfl; have b2 := hw.box 2 rfl; simp only [heap_alloc_size] at b0 b1 b2; clear r1 hw T1 O1)
    | (have T1 := unhide R1; go_at_call 8; refine Calls.mono (unhide C1 p1 _ T1) ?_; rintro e w2 ⟨rfl, hw⟩; have X2 := hide ((unhide X1).trans hw); have b0 := hw.cell b0; have b1 := hw.cell b1; have b2 := hw.cell b2; clear hw T1 R1)
    | (have T1 := unhide X2; have T2 := unhide O2; go_at_call 6; refine Calls.mono (T2 _) ?_; rintro e w3 ⟨p3, rfl, r3, hw⟩; have R3 := hide r3; have X3 := hide ((unhide X2).trans hw); clear r3 hw T1 T2 O2)
    | (have T1 := unhide R3; go_at_call 8; refine Calls.mono (unhide C2 p3 _ T1) ?_; rintro e w4 ⟨rfl, hw⟩; have X4 := hide ((unhide X3).trans hw); clear hw T1 R3)
    | (have T1 := unhide X4; go_at_call 9; refine Calls.mono (unhide HAw _) ?_; rintro e w5 ⟨rfl, hw⟩; have X5 := hide ((unhide X4).trans hw); clear hw T1))
  go_ret
  exact ⟨rfl, unhide X5⟩

set_option maxHeartbeats 1000000 in
theorem forms_30 (a0 : Int) (w : World) (hk : (bits .and .i64 a0 65535).tmod 9 = 3) :
    Calls Try.prog 3 #[.int .i64 a0, .bool false] w fun e w' => e = .returned (.bool true) ∧ Ext w w' := by
  have HAw := hide (fun W => awake_s W)
  have O1 := hide (fun W => of_any ⟨5, 14, 0⟩ W)
  have O2 := hide (fun W => of_any ⟨5, 15, 0⟩ W)
  have C1 := hide (fun pa W => chk_fo ⟨5, 14, 0⟩ 0 (by decide) fo_g3 pa W)
  have C2 := hide (fun pa W => chk_fo ⟨5, 15, 0⟩ 3 (by decide) fo_b30 pa W)
  have HX : Hd (∀ o1 o2 o3 : Obj, Ext w (((w.alloc o1).alloc o2).alloc o3)) := fun o1 o2 o3 => (Ext.alloc _ _).trans ((Ext.alloc _ _).trans (Ext.alloc _ _))
  go_enter Try.func3, Try.ntmps3
  go_wp2_with (first
    | (have T1 := unhide O1; go_at_call 6; refine Calls.mono (T1 _) ?_; rintro e w1 ⟨p1, rfl, r1, hw⟩; have R1 := hide r1; have X1 := hide ((unhide HX _ _ _).trans hw); have b0 := hw.box 0 rfl; have b1 := hw.box 1 rfl; have b2 := hw.box 2 rfl; simp only [heap_alloc_size] at b0 b1 b2; clear r1 hw T1 O1)
    | (have T1 := unhide R1; go_at_call 8; refine Calls.mono (unhide C1 p1 _ T1) ?_; rintro e w2 ⟨rfl, hw⟩; have X2 := hide ((unhide X1).trans hw); have b0 := hw.cell b0; have b1 := hw.cell b1; have b2 := hw.cell b2; clear hw T1 R1)
    | (have T1 := unhide X2; have T2 := unhide O2; go_at_call 6; refine Calls.mono (T2 _) ?_; rintro e w3 ⟨p3, rfl, r3, hw⟩; have R3 := hide r3; have X3 := hide ((unhide X2).trans hw); clear r3 hw T1 T2 O2)
    | (have T1 := unhide R3; go_at_call 8; refine Calls.mono (unhide C2 p3 _ T1) ?_; rintro e w4 ⟨rfl, hw⟩; have X4 := hide ((unhide X3).trans hw); clear hw T1 R3)
    | (have T1 := unhide X4; go_at_call 9; refine Calls.mono (unhide HAw _) ?_; rintro e w5 ⟨rfl, hw⟩; have X5 := hide ((unhide X4).trans hw); clear hw T1))
  go_ret
  exact ⟨rfl, unhide X5⟩

set_option maxHeartbeats 1000000 in
theorem forms_31 (a0 : Int) (w : World) (hk : (bits .and .i64 a0 65535).tmod 9 = 3) :
    Calls Try.prog 3 #[.int .i64 a0, .bool true] w fun e w' => e = .returned (.bool true) ∧ Ext w w' := by
  have HAw := hide (fun W => awake_s W)
  have O1 := hide (fun W => of_any ⟨5, 14, 0⟩ W)
  have O2 := hide (fun W => of_any ⟨5, (-1), 0⟩ W)
  have C1 := hide (fun pa W => chk_fo ⟨5, 14, 0⟩ 0 (by decide) fo_g3 pa W)
  have C2 := hide (fun pa W => chk_fo ⟨5, (-1), 0⟩ 3 (by decide) fo_b31 pa W)
  have HX : Hd (∀ o1 o2 o3 : Obj, Ext w (((w.alloc o1).alloc o2).alloc o3)) := fun o1 o2 o3 => (Ext.alloc _ _).trans ((Ext.alloc _ _).trans (Ext.alloc _ _))
  go_enter Try.func3, Try.ntmps3
  go_wp2_with (first
    | (have T1 := unhide O1; go_at_call 6; refine Calls.mono (T1 _) ?_; rintro e w1 ⟨p1, rfl, r1, hw⟩; have R1 := hide r1; have X1 := hide ((unhide HX _ _ _).trans hw); have b0 := hw.box 0 rfl; have b1 := hw.box 1 rfl; have b2 := hw.box 2 rfl; simp only [heap_alloc_size] at b0 b1 b2; clear r1 hw T1 O1)
    | (have T1 := unhide R1; go_at_call 8; refine Calls.mono (unhide C1 p1 _ T1) ?_; rintro e w2 ⟨rfl, hw⟩; have X2 := hide ((unhide X1).trans hw); have b0 := hw.cell b0; have b1 := hw.cell b1; have b2 := hw.cell b2; clear hw T1 R1)
    | (have T1 := unhide X2; have T2 := unhide O2; go_at_call 6; refine Calls.mono (T2 _) ?_; rintro e w3 ⟨p3, rfl, r3, hw⟩; have R3 := hide r3; have X3 := hide ((unhide X2).trans hw); clear r3 hw T1 T2 O2)
    | (have T1 := unhide R3; go_at_call 8; refine Calls.mono (unhide C2 p3 _ T1) ?_; rintro e w4 ⟨rfl, hw⟩; have X4 := hide ((unhide X3).trans hw); clear hw T1 R3)
    | (have T1 := unhide X4; go_at_call 9; refine Calls.mono (unhide HAw _) ?_; rintro e w5 ⟨rfl, hw⟩; have X5 := hide ((unhide X4).trans hw); clear hw T1))
  go_ret
  exact ⟨rfl, unhide X5⟩

set_option maxHeartbeats 1000000 in
theorem forms_40 (a0 : Int) (w : World) (hk : (bits .and .i64 a0 65535).tmod 9 = 4) :
    Calls Try.prog 3 #[.int .i64 a0, .bool false] w fun e w' => e = .returned (.bool true) ∧ Ext w w' := by
  have HAw := hide (fun W => awake_s W)
  have O1 := hide (fun W => of_any ⟨6, 20, 0⟩ W)
  have O2 := hide (fun W => of_any ⟨6, 21, 0⟩ W)
  have C1 := hide (fun pa W => chk_fo ⟨6, 20, 0⟩ 0 (by decide) fo_g4 pa W)
  have C2 := hide (fun pa W => chk_fo ⟨6, 21, 0⟩ 3 (by decide) fo_b40 pa W)
  have HX : Hd (∀ o1 o2 o3 : Obj, Ext w (((w.alloc o1).alloc o2).alloc o3)) := fun o1 o2 o3 => (Ext.alloc _ _).trans ((Ext.alloc _ _).trans (Ext.alloc _ _))
  go_enter Try.func3, Try.ntmps3
  go_wp2_with (first
    | (have T1 := unhide O1; go_at_call 6; refine Calls.mono (T1 _) ?_; rintro e w1 ⟨p1, rfl, r1, hw⟩; have R1 := hide r1; have X1 := hide ((unhide HX _ _ _).trans hw); have b0 := hw.box 0 rfl; have b1 := hw.box 1 rfl; have b2 := hw.box 2 rfl; simp only [heap_alloc_size] at b0 b1 b2; clear r1 hw T1 O1)
    | (have T1 := unhide R1; go_at_call 8; refine Calls.mono (unhide C1 p1 _ T1) ?_; rintro e w2 ⟨rfl, hw⟩; have X2 := hide ((unhide X1).trans hw); have b0 := hw.cell b0; have b1 := hw.cell b1; have b2 := hw.cell b2; clear hw T1 R1)
    | (have T1 := unhide X2; have T2 := unhide O2; go_at_call 6; refine Calls.mono (T2 _) ?_; rintro e w3 ⟨p3, rfl, r3, hw⟩; have R3 := hide r3; have X3 := hide ((unhide X2).trans hw); clear r3 hw T1 T2 O2)
    | (have T1 := unhide R3; go_at_call 8; refine Calls.mono (unhide C2 p3 _ T1) ?_; rintro e w4 ⟨rfl, hw⟩; have X4 := hide ((unhide X3).trans hw); clear hw T1 R3)
    | (have T1 := unhide X4; go_at_call 9; refine Calls.mono (unhide HAw _) ?_; rintro e w5 ⟨rfl, hw⟩; have X5 := hide ((unhide X4).trans hw); clear hw T1))
  go_ret
  exact ⟨rfl, unhide X5⟩

set_option maxHeartbeats 1000000 in
theorem forms_41 (a0 : Int) (w : World) (hk : (bits .and .i64 a0 65535).tmod 9 = 4) :
    Calls Try.prog 3 #[.int .i64 a0, .bool true] w fun e w' => e = .returned (.bool true) ∧ Ext w w' := by
  have HAw := hide (fun W => awake_s W)
  have O1 := hide (fun W => of_any ⟨6, 20, 0⟩ W)
  have O2 := hide (fun W => of_any ⟨6, (-1), 0⟩ W)
  have C1 := hide (fun pa W => chk_fo ⟨6, 20, 0⟩ 0 (by decide) fo_g4 pa W)
  have C2 := hide (fun pa W => chk_fo ⟨6, (-1), 0⟩ 3 (by decide) fo_b41 pa W)
  have HX : Hd (∀ o1 o2 o3 : Obj, Ext w (((w.alloc o1).alloc o2).alloc o3)) := fun o1 o2 o3 => (Ext.alloc _ _).trans ((Ext.alloc _ _).trans (Ext.alloc _ _))
  go_enter Try.func3, Try.ntmps3
  go_wp2_with (first
    | (have T1 := unhide O1; go_at_call 6; refine Calls.mono (T1 _) ?_; rintro e w1 ⟨p1, rfl, r1, hw⟩; have R1 := hide r1; have X1 := hide ((unhide HX _ _ _).trans hw); have b0 := hw.box 0 rfl; have b1 := hw.box 1 rfl; have b2 := hw.box 2 rfl; simp only [heap_alloc_size] at b0 b1 b2; clear r1 hw T1 O1)
    | (have T1 := unhide R1; go_at_call 8; refine Calls.mono (unhide C1 p1 _ T1) ?_; rintro e w2 ⟨rfl, hw⟩; have X2 := hide ((unhide X1).trans hw); have b0 := hw.cell b0; have b1 := hw.cell b1; have b2 := hw.cell b2; clear hw T1 R1)
    | (have T1 := unhide X2; have T2 := unhide O2; go_at_call 6; refine Calls.mono (T2 _) ?_; rintro e w3 ⟨p3, rfl, r3, hw⟩; have R3 := hide r3; have X3 := hide ((unhide X2).trans hw); clear r3 hw T1 T2 O2)
    | (have T1 := unhide R3; go_at_call 8; refine Calls.mono (unhide C2 p3 _ T1) ?_; rintro e w4 ⟨rfl, hw⟩; have X4 := hide ((unhide X3).trans hw); clear hw T1 R3)
    | (have T1 := unhide X4; go_at_call 9; refine Calls.mono (unhide HAw _) ?_; rintro e w5 ⟨rfl, hw⟩; have X5 := hide ((unhide X4).trans hw); clear hw T1))
  go_ret
  exact ⟨rfl, unhide X5⟩

set_option maxHeartbeats 1000000 in
theorem forms_50 (a0 : Int) (w : World) (hk : (bits .and .i64 a0 65535).tmod 9 = 5) :
    Calls Try.prog 3 #[.int .i64 a0, .bool false] w fun e w' => e = .returned (.bool true) ∧ Ext w w' := by
  have HAw := hide (fun W => awake_s W)
  have O1 := hide (fun W => of_any ⟨7, 3, 0⟩ W)
  have O2 := hide (fun W => of_any ⟨7, 4, 0⟩ W)
  have C1 := hide (fun pa W => chk_fo ⟨7, 3, 0⟩ 0 (by decide) fo_g5 pa W)
  have C2 := hide (fun pa W => chk_fo ⟨7, 4, 0⟩ 3 (by decide) fo_b50 pa W)
  have HX : Hd (∀ o1 o2 o3 : Obj, Ext w (((w.alloc o1).alloc o2).alloc o3)) := fun o1 o2 o3 => (Ext.alloc _ _).trans ((Ext.alloc _ _).trans (Ext.alloc _ _))
  go_enter Try.func3, Try.ntmps3
  go_wp2_with (first
    | (have T1 := unhide O1; go_at_call 6; refine Calls.mono (T1 _) ?_; rintro e w1 ⟨p1, rfl, r1, hw⟩; have R1 := hide r1; have X1 := hide ((unhide HX _ _ _).trans hw); have b0 := hw.box 0 rfl; have b1 := hw.box 1 rfl; have b2 := hw.box 2 rfl; simp only [heap_alloc_size] at b0 b1 b2; clear r1 hw T1 O1)
    | (have T1 := unhide R1; go_at_call 8; refine Calls.mono (unhide C1 p1 _ T1) ?_; rintro e w2 ⟨rfl, hw⟩; have X2 := hide ((unhide X1).trans hw); have b0 := hw.cell b0; have b1 := hw.cell b1; have b2 := hw.cell b2; clear hw T1 R1)
    | (have T1 := unhide X2; have T2 := unhide O2; go_at_call 6; refine Calls.mono (T2 _) ?_; rintro e w3 ⟨p3, rfl, r3, hw⟩; have R3 := hide r3; have X3 := hide ((unhide X2).trans hw); clear r3 hw T1 T2 O2)
    | (have T1 := unhide R3; go_at_call 8; refine Calls.mono (unhide C2 p3 _ T1) ?_; rintro e w4 ⟨rfl, hw⟩; have X4 := hide ((unhide X3).trans hw); clear hw T1 R3)
    | (have T1 := unhide X4; go_at_call 9; refine Calls.mono (unhide HAw _) ?_; rintro e w5 ⟨rfl, hw⟩; have X5 := hide ((unhide X4).trans hw); clear hw T1))
  go_ret
  exact ⟨rfl, unhide X5⟩

set_option maxHeartbeats 1000000 in
theorem forms_51 (a0 : Int) (w : World) (hk : (bits .and .i64 a0 65535).tmod 9 = 5) :
    Calls Try.prog 3 #[.int .i64 a0, .bool true] w fun e w' => e = .returned (.bool true) ∧ Ext w w' := by
  have HAw := hide (fun W => awake_s W)
  have O1 := hide (fun W => of_any ⟨7, 3, 0⟩ W)
  have O2 := hide (fun W => of_any ⟨7, (-1), 0⟩ W)
  have C1 := hide (fun pa W => chk_fo ⟨7, 3, 0⟩ 0 (by decide) fo_g5 pa W)
  have C2 := hide (fun pa W => chk_fo ⟨7, (-1), 0⟩ 3 (by decide) fo_b51 pa W)
  have HX : Hd (∀ o1 o2 o3 : Obj, Ext w (((w.alloc o1).alloc o2).alloc o3)) := fun o1 o2 o3 => (Ext.alloc _ _).trans ((Ext.alloc _ _).trans (Ext.alloc _ _))
  go_enter Try.func3, Try.ntmps3
  go_wp2_with (first
    | (have T1 := unhide O1; go_at_call 6; refine Calls.mono (T1 _) ?_; rintro e w1 ⟨p1, rfl, r1, hw⟩; have R1 := hide r1; have X1 := hide ((unhide HX _ _ _).trans hw); have b0 := hw.box 0 rfl; have b1 := hw.box 1 rfl; have b2 := hw.box 2 rfl; simp only [heap_alloc_size] at b0 b1 b2; clear r1 hw T1 O1)
    | (have T1 := unhide R1; go_at_call 8; refine Calls.mono (unhide C1 p1 _ T1) ?_; rintro e w2 ⟨rfl, hw⟩; have X2 := hide ((unhide X1).trans hw); have b0 := hw.cell b0; have b1 := hw.cell b1; have b2 := hw.cell b2; clear hw T1 R1)
    | (have T1 := unhide X2; have T2 := unhide O2; go_at_call 6; refine Calls.mono (T2 _) ?_; rintro e w3 ⟨p3, rfl, r3, hw⟩; have R3 := hide r3; have X3 := hide ((unhide X2).trans hw); clear r3 hw T1 T2 O2)
    | (have T1 := unhide R3; go_at_call 8; refine Calls.mono (unhide C2 p3 _ T1) ?_; rintro e w4 ⟨rfl, hw⟩; have X4 := hide ((unhide X3).trans hw); clear hw T1 R3)
    | (have T1 := unhide X4; go_at_call 9; refine Calls.mono (unhide HAw _) ?_; rintro e w5 ⟨rfl, hw⟩; have X5 := hide ((unhide X4).trans hw); clear hw T1))
  go_ret
  exact ⟨rfl, unhide X5⟩

set_option maxHeartbeats 1000000 in
theorem forms_60 (a0 : Int) (w : World) (hk : (bits .and .i64 a0 65535).tmod 9 = 6) :
    Calls Try.prog 3 #[.int .i64 a0, .bool false] w fun e w' => e = .returned (.bool true) ∧ Ext w w' := by
  have HAw := hide (fun W => awake_s W)
  have O1 := hide (fun W => of_any ⟨12, 4095, 0⟩ W)
  have O2 := hide (fun W => of_any ⟨12, 4096, 0⟩ W)
  have C1 := hide (fun pa W => chk_fo ⟨12, 4095, 0⟩ 0 (by decide) fo_g6 pa W)
  have C2 := hide (fun pa W => chk_fo ⟨12, 4096, 0⟩ 3 (by decide) fo_b60 pa W)
  have HX : Hd (∀ o1 o2 o3 : Obj, Ext w (((w.alloc o1).alloc o2).alloc o3)) := fun o1 o2 o3 => (Ext.alloc _ _).trans ((Ext.alloc _ _).trans (Ext.alloc _ _))
  go_enter Try.func3, Try.ntmps3
  go_wp2_with (first
    | (have T1 := unhide O1; go_at_call 6; refine Calls.mono (T1 _) ?_; rintro e w1 ⟨p1, rfl, r1, hw⟩; have R1 := hide r1; have X1 := hide ((unhide HX _ _ _).trans hw); have b0 := hw.box 0 rfl; have b1 := hw.box 1 rfl; have b2 := hw.box 2 rfl; simp only [heap_alloc_size] at b0 b1 b2; clear r1 hw T1 O1)
    | (have T1 := unhide R1; go_at_call 8; refine Calls.mono (unhide C1 p1 _ T1) ?_; rintro e w2 ⟨rfl, hw⟩; have X2 := hide ((unhide X1).trans hw); have b0 := hw.cell b0; have b1 := hw.cell b1; have b2 := hw.cell b2; clear hw T1 R1)
    | (have T1 := unhide X2; have T2 := unhide O2; go_at_call 6; refine Calls.mono (T2 _) ?_; rintro e w3 ⟨p3, rfl, r3, hw⟩; have R3 := hide r3; have X3 := hide ((unhide X2).trans hw); clear r3 hw T1 T2 O2)
    | (have T1 := unhide R3; go_at_call 8; refine Calls.mono (unhide C2 p3 _ T1) ?_; rintro e w4 ⟨rfl, hw⟩; have X4 := hide ((unhide X3).trans hw); clear hw T1 R3)
    | (have T1 := unhide X4; go_at_call 9; refine Calls.mono (unhide HAw _) ?_; rintro e w5 ⟨rfl, hw⟩; have X5 := hide ((unhide X4).trans hw); clear hw T1))
  go_ret
  exact ⟨rfl, unhide X5⟩

set_option maxHeartbeats 1000000 in
theorem forms_61 (a0 : Int) (w : World) (hk : (bits .and .i64 a0 65535).tmod 9 = 6) :
    Calls Try.prog 3 #[.int .i64 a0, .bool true] w fun e w' => e = .returned (.bool true) ∧ Ext w w' := by
  have HAw := hide (fun W => awake_s W)
  have O1 := hide (fun W => of_any ⟨12, 4095, 0⟩ W)
  have O2 := hide (fun W => of_any ⟨12, (-1), 0⟩ W)
  have C1 := hide (fun pa W => chk_fo ⟨12, 4095, 0⟩ 0 (by decide) fo_g6 pa W)
  have C2 := hide (fun pa W => chk_fo ⟨12, (-1), 0⟩ 3 (by decide) fo_b61 pa W)
  have HX : Hd (∀ o1 o2 o3 : Obj, Ext w (((w.alloc o1).alloc o2).alloc o3)) := fun o1 o2 o3 => (Ext.alloc _ _).trans ((Ext.alloc _ _).trans (Ext.alloc _ _))
  go_enter Try.func3, Try.ntmps3
  go_wp2_with (first
    | (have T1 := unhide O1; go_at_call 6; refine Calls.mono (T1 _) ?_; rintro e w1 ⟨p1, rfl, r1, hw⟩; have R1 := hide r1; have X1 := hide ((unhide HX _ _ _).trans hw); have b0 := hw.box 0 rfl; have b1 := hw.box 1 rfl; have b2 := hw.box 2 rfl; simp only [heap_alloc_size] at b0 b1 b2; clear r1 hw T1 O1)
    | (have T1 := unhide R1; go_at_call 8; refine Calls.mono (unhide C1 p1 _ T1) ?_; rintro e w2 ⟨rfl, hw⟩; have X2 := hide ((unhide X1).trans hw); have b0 := hw.cell b0; have b1 := hw.cell b1; have b2 := hw.cell b2; clear hw T1 R1)
    | (have T1 := unhide X2; have T2 := unhide O2; go_at_call 6; refine Calls.mono (T2 _) ?_; rintro e w3 ⟨p3, rfl, r3, hw⟩; have R3 := hide r3; have X3 := hide ((unhide X2).trans hw); clear r3 hw T1 T2 O2)
    | (have T1 := unhide R3; go_at_call 8; refine Calls.mono (unhide C2 p3 _ T1) ?_; rintro e w4 ⟨rfl, hw⟩; have X4 := hide ((unhide X3).trans hw); clear hw T1 R3)
    | (have T1 := unhide X4; go_at_call 9; refine Calls.mono (unhide HAw _) ?_; rintro e w5 ⟨rfl, hw⟩; have X5 := hide ((unhide X4).trans hw); clear hw T1))
  go_ret
  exact ⟨rfl, unhide X5⟩

set_option maxHeartbeats 1000000 in
theorem forms_70 (a0 : Int) (w : World) (hk : (bits .and .i64 a0 65535).tmod 9 = 7) :
    Calls Try.prog 3 #[.int .i64 a0, .bool false] w fun e w' => e = .returned (.bool true) ∧ Ext w w' := by
  have HAw := hide (fun W => awake_s W)
  have O1 := hide (fun W => of_any ⟨13, 64, 0⟩ W)
  have O2 := hide (fun W => of_any ⟨13, 65, 0⟩ W)
  have C1 := hide (fun pa W => chk_fo ⟨13, 64, 0⟩ 0 (by decide) fo_g7 pa W)
  have C2 := hide (fun pa W => chk_fo ⟨13, 65, 0⟩ 3 (by decide) fo_b70 pa W)
  have HX : Hd (∀ o1 o2 o3 : Obj, Ext w (((w.alloc o1).alloc o2).alloc o3)) := fun o1 o2 o3 => (Ext.alloc _ _).trans ((Ext.alloc _ _).trans (Ext.alloc _ _))
  go_enter Try.func3, Try.ntmps3
  go_wp2_with (first
    | (have T1 := unhide O1; go_at_call 6; refine Calls.mono (T1 _) ?_; rintro e w1 ⟨p1, rfl, r1, hw⟩; have R1 := hide r1; have X1 := hide ((unhide HX _ _ _).trans hw); have b0 := hw.box 0 rfl; have b1 := hw.box 1 rfl; have b2 := hw.box 2 rfl; simp only [heap_alloc_size] at b0 b1 b2; clear r1 hw T1 O1)
    | (have T1 := unhide R1; go_at_call 8; refine Calls.mono (unhide C1 p1 _ T1) ?_; rintro e w2 ⟨rfl, hw⟩; have X2 := hide ((unhide X1).trans hw); have b0 := hw.cell b0; have b1 := hw.cell b1; have b2 := hw.cell b2; clear hw T1 R1)
    | (have T1 := unhide X2; have T2 := unhide O2; go_at_call 6; refine Calls.mono (T2 _) ?_; rintro e w3 ⟨p3, rfl, r3, hw⟩; have R3 := hide r3; have X3 := hide ((unhide X2).trans hw); clear r3 hw T1 T2 O2)
    | (have T1 := unhide R3; go_at_call 8; refine Calls.mono (unhide C2 p3 _ T1) ?_; rintro e w4 ⟨rfl, hw⟩; have X4 := hide ((unhide X3).trans hw); clear hw T1 R3)
    | (have T1 := unhide X4; go_at_call 9; refine Calls.mono (unhide HAw _) ?_; rintro e w5 ⟨rfl, hw⟩; have X5 := hide ((unhide X4).trans hw); clear hw T1))
  go_ret
  exact ⟨rfl, unhide X5⟩

set_option maxHeartbeats 1000000 in
theorem forms_71 (a0 : Int) (w : World) (hk : (bits .and .i64 a0 65535).tmod 9 = 7) :
    Calls Try.prog 3 #[.int .i64 a0, .bool true] w fun e w' => e = .returned (.bool true) ∧ Ext w w' := by
  have HAw := hide (fun W => awake_s W)
  have O1 := hide (fun W => of_any ⟨13, 64, 0⟩ W)
  have O2 := hide (fun W => of_any ⟨13, (-1), 0⟩ W)
  have C1 := hide (fun pa W => chk_fo ⟨13, 64, 0⟩ 0 (by decide) fo_g7 pa W)
  have C2 := hide (fun pa W => chk_fo ⟨13, (-1), 0⟩ 3 (by decide) fo_b71 pa W)
  have HX : Hd (∀ o1 o2 o3 : Obj, Ext w (((w.alloc o1).alloc o2).alloc o3)) := fun o1 o2 o3 => (Ext.alloc _ _).trans ((Ext.alloc _ _).trans (Ext.alloc _ _))
  go_enter Try.func3, Try.ntmps3
  go_wp2_with (first
    | (have T1 := unhide O1; go_at_call 6; refine Calls.mono (T1 _) ?_; rintro e w1 ⟨p1, rfl, r1, hw⟩; have R1 := hide r1; have X1 := hide ((unhide HX _ _ _).trans hw); have b0 := hw.box 0 rfl; have b1 := hw.box 1 rfl; have b2 := hw.box 2 rfl; simp only [heap_alloc_size] at b0 b1 b2; clear r1 hw T1 O1)
    | (have T1 := unhide R1; go_at_call 8; refine Calls.mono (unhide C1 p1 _ T1) ?_; rintro e w2 ⟨rfl, hw⟩; have X2 := hide ((unhide X1).trans hw); have b0 := hw.cell b0; have b1 := hw.cell b1; have b2 := hw.cell b2; clear hw T1 R1)
    | (have T1 := unhide X2; have T2 := unhide O2; go_at_call 6; refine Calls.mono (T2 _) ?_; rintro e w3 ⟨p3, rfl, r3, hw⟩; have R3 := hide r3; have X3 := hide ((unhide X2).trans hw); clear r3 hw T1 T2 O2)
    | (have T1 := unhide R3; go_at_call 8; refine Calls.mono (unhide C2 p3 _ T1) ?_; rintro e w4 ⟨rfl, hw⟩; have X4 := hide ((unhide X3).trans hw); clear hw T1 R3)
    | (have T1 := unhide X4; go_at_call 9; refine Calls.mono (unhide HAw _) ?_; rintro e w5 ⟨rfl, hw⟩; have X5 := hide ((unhide X4).trans hw); clear hw T1))
  go_ret
  exact ⟨rfl, unhide X5⟩

set_option maxHeartbeats 1000000 in
theorem forms_80 (a0 : Int) (w : World) (hk : (bits .and .i64 a0 65535).tmod 9 = 8) :
    Calls Try.prog 3 #[.int .i64 a0, .bool false] w fun e w' => e = .returned (.bool true) ∧ Ext w w' := by
  have HAw := hide (fun W => awake_s W)
  have O1 := hide (fun W => of_any ⟨9, 0, 0⟩ W)
  have O2 := hide (fun W => of_any ⟨9, 0, 1⟩ W)
  have C1 := hide (fun pa W => chk_fo ⟨9, 0, 0⟩ 0 (by decide) fo_g8 pa W)
  have C2 := hide (fun pa W => chk_fo ⟨9, 0, 1⟩ 3 (by decide) fo_b80 pa W)
  have HX : Hd (∀ o1 o2 o3 : Obj, Ext w (((w.alloc o1).alloc o2).alloc o3)) := fun o1 o2 o3 => (Ext.alloc _ _).trans ((Ext.alloc _ _).trans (Ext.alloc _ _))
  go_enter Try.func3, Try.ntmps3
  go_wp2_with (first
    | (have T1 := unhide O1; go_at_call 6; refine Calls.mono (T1 _) ?_; rintro e w1 ⟨p1, rfl, r1, hw⟩; have R1 := hide r1; have X1 := hide ((unhide HX _ _ _).trans hw); have b0 := hw.box 0 rfl; have b1 := hw.box 1 rfl; have b2 := hw.box 2 rfl; simp only [heap_alloc_size] at b0 b1 b2; clear r1 hw T1 O1)
    | (have T1 := unhide R1; go_at_call 8; refine Calls.mono (unhide C1 p1 _ T1) ?_; rintro e w2 ⟨rfl, hw⟩; have X2 := hide ((unhide X1).trans hw); have b0 := hw.cell b0; have b1 := hw.cell b1; have b2 := hw.cell b2; clear hw T1 R1)
    | (have T1 := unhide X2; have T2 := unhide O2; go_at_call 6; refine Calls.mono (T2 _) ?_; rintro e w3 ⟨p3, rfl, r3, hw⟩; have R3 := hide r3; have X3 := hide ((unhide X2).trans hw); clear r3 hw T1 T2 O2)
    | (have T1 := unhide R3; go_at_call 8; refine Calls.mono (unhide C2 p3 _ T1) ?_; rintro e w4 ⟨rfl, hw⟩; have X4 := hide ((unhide X3).trans hw); clear hw T1 R3)
    | (have T1 := unhide X4; go_at_call 9; refine Calls.mono (unhide HAw _) ?_; rintro e w5 ⟨rfl, hw⟩; have X5 := hide ((unhide X4).trans hw); clear hw T1))
  go_ret
  exact ⟨rfl, unhide X5⟩

set_option maxHeartbeats 1000000 in
theorem forms_81 (a0 : Int) (w : World) (hk : (bits .and .i64 a0 65535).tmod 9 = 8) :
    Calls Try.prog 3 #[.int .i64 a0, .bool true] w fun e w' => e = .returned (.bool true) ∧ Ext w w' := by
  have HAw := hide (fun W => awake_s W)
  have O1 := hide (fun W => of_any ⟨9, 0, 0⟩ W)
  have O2 := hide (fun W => of_any ⟨9, 0, 1⟩ W)
  have C1 := hide (fun pa W => chk_fo ⟨9, 0, 0⟩ 0 (by decide) fo_g8 pa W)
  have C2 := hide (fun pa W => chk_fo ⟨9, 0, 1⟩ 3 (by decide) fo_b81 pa W)
  have HX : Hd (∀ o1 o2 o3 : Obj, Ext w (((w.alloc o1).alloc o2).alloc o3)) := fun o1 o2 o3 => (Ext.alloc _ _).trans ((Ext.alloc _ _).trans (Ext.alloc _ _))
  go_enter Try.func3, Try.ntmps3
  go_wp2_with (first
    | (have T1 := unhide O1; go_at_call 6; refine Calls.mono (T1 _) ?_; rintro e w1 ⟨p1, rfl, r1, hw⟩; have R1 := hide r1; have X1 := hide ((unhide HX _ _ _).trans hw); have b0 := hw.box 0 rfl; have b1 := hw.box 1 rfl; have b2 := hw.box 2 rfl; simp only [heap_alloc_size] at b0 b1 b2; clear r1 hw T1 O1)
    | (have T1 := unhide R1; go_at_call 8; refine Calls.mono (unhide C1 p1 _ T1) ?_; rintro e w2 ⟨rfl, hw⟩; have X2 := hide ((unhide X1).trans hw); have b0 := hw.cell b0; have b1 := hw.cell b1; have b2 := hw.cell b2; clear hw T1 R1)
    | (have T1 := unhide X2; have T2 := unhide O2; go_at_call 6; refine Calls.mono (T2 _) ?_; rintro e w3 ⟨p3, rfl, r3, hw⟩; have R3 := hide r3; have X3 := hide ((unhide X2).trans hw); clear r3 hw T1 T2 O2)
    | (have T1 := unhide R3; go_at_call 8; refine Calls.mono (unhide C2 p3 _ T1) ?_; rintro e w4 ⟨rfl, hw⟩; have X4 := hide ((unhide X3).trans hw); clear hw T1 R3)
    | (have T1 := unhide X4; go_at_call 9; refine Calls.mono (unhide HAw _) ?_; rintro e w5 ⟨rfl, hw⟩; have X5 := hide ((unhide X4).trans hw); clear hw T1))
  go_ret
  exact ⟨rfl, unhide X5⟩

theorem forms_walk (a0 : Int) (b : Bool) (w : World) : Calls Try.prog 3 #[.int .i64 a0, .bool b] w fun e w' => e = .returned (.bool true) ∧ Ext w w' := by
  obtain ⟨n, hn, hn1⟩ := k_mask a0 9 (by decide)
  rcases (show n = 0 ∨ n = 1 ∨ n = 2 ∨ n = 3 ∨ n = 4 ∨ n = 5 ∨ n = 6 ∨ n = 7 ∨ n = 8 by omega) with rfl | rfl | rfl | rfl | rfl | rfl | rfl | rfl | rfl
  · cases b with
    | false => exact forms_00 a0 w hn
    | true => exact forms_01 a0 w hn
  · cases b with
    | false => exact forms_10 a0 w hn
    | true => exact forms_11 a0 w hn
  · cases b with
    | false => exact forms_20 a0 w hn
    | true => exact forms_21 a0 w hn
  · cases b with
    | false => exact forms_30 a0 w hn
    | true => exact forms_31 a0 w hn
  · cases b with
    | false => exact forms_40 a0 w hn
    | true => exact forms_41 a0 w hn
  · cases b with
    | false => exact forms_50 a0 w hn
    | true => exact forms_51 a0 w hn
  · cases b with
    | false => exact forms_60 a0 w hn
    | true => exact forms_61 a0 w hn
  · cases b with
    | false => exact forms_70 a0 w hn
    | true => exact forms_71 a0 w hn
  · cases b with
    | false => exact forms_80 a0 w hn
    | true => exact forms_81 a0 w hn

end Go.Proofs.Ytggpehmljpanjaa
