/- What the document fixes of layer 5. -/
import Derived.Test.YtbcflcnkhhkogaaGreatDoorZb40
set_option linter.unusedSimpArgs false
set_option linter.unusedVariables false
set_option maxRecDepth 10000

namespace Go.Proofs.YtbcflcnkhhkogaaGreatDoor
open Go.RowKit

def awL : List UInt8 := [97, 32, 43, 32, 98, 32, 42, 32, 50, 32, 60, 32, 51]
def awP : PN := ⟨11, 8, emptyB, 0, [⟨11, 1, emptyB, 0, [⟨19, 0, ⟨#[97]⟩, 0, []⟩, ⟨11, 3, emptyB, 0, [⟨19, 0, ⟨#[98]⟩, 0, []⟩, ⟨15, 0, emptyB, 2, []⟩]⟩]⟩, ⟨15, 0, emptyB, 3, []⟩]⟩
theorem aw_x : xrP ⟨awL.toArray⟩ 50 = (awP, ⟨[], 0, 0, 0⟩) := by kernel_rfl
theorem aw_e : wE 10 awP 1 (([], false), 0) = some ((awL, false), 7) := by kernel_rfl
theorem aw_b : bdN 5 awP = true := by decide +kernel
theorem aw_l : (begP ⟨awL.toArray⟩).ts.length < 50 := by decide +kernel
def mnB : ByteArray := ⟨#[102, 110, 32, 109, 97, 105, 110, 32, 40, 32, 41, 32, 123, 32, 125]⟩
def mnF : PFn := ⟨⟨#[109, 97, 105, 110]⟩, [], ⟨10, 0, emptyB, 0, []⟩⟩
theorem mn_x : rdP mnB 50 = ([mnF], ⟨[], 0, 0, 0⟩) := by kernel_rfl
theorem mn_l : (begP mnB).ts.length < 50 := by decide +kernel
theorem mn_t : tooP [mnF] = false := by decide +kernel

set_option maxHeartbeats 1000000 in
theorem awake5_w (w : World) (he : Er w) (hO : Opx w) : Calls Tryz.prog 10 #[] w fun e w' => e = .returned (.bool true) ∧ Ext w w' := by
  have HX : Hd (Calls Tryz.prog 9 #[.string ⟨#[97, 32, 43, 32, 98, 32, 42, 32, 50, 32, 60, 32, 51]⟩] w fun e w' => ∃ ua uc, e = .returned (.tuple #[.agg #[.int .i64 11, .int .i64 8, .string emptyB, .int .i64 0, .slice ua 2 uc], .int .i64 0, .int .i64 0]) ∧ RepN w' (InW w') awP (.agg #[.int .i64 11, .int .i64 8, .string emptyB, .int .i64 0, .slice ua 2 uc]) ∧ Ext w w') := by
    refine Calls.mono (exprT_any ⟨awL.toArray⟩ 50 w he hO (by decide) aw_l (by omega)) ?_
    rw [aw_x]
    rintro e w' ⟨hw, h9 | ⟨h9, u, rfl, ru⟩⟩
    · exact absurd rfl h9.1
    · have ru2 : RepN w' (InW w') awP u := RepN.to (fun b hb => ⟨hb.2, rfl⟩) _ _ ru
      have ru3 := ru2
      unfold awP at ru3
      rw [RepN] at ru3
      obtain ⟨ua, uc, rfl, _, _⟩ := ru3
      exact ⟨ua, uc, rfl, ru2, hw⟩
  have HS : Hd (∀ (v : Value) (W : World), Ext w W → RepN W (InW W) awP v → Calls Tryz.prog 17 #[v] W fun e w' => e = .returned (.tuple #[.string ⟨#[97, 32, 43, 32, 98, 32, 42, 32, 50, 32, 60, 32, 51]⟩, .bool true]) ∧ Ext W w') := fun v W x h => show_w awP 10 50 5 awL 7 _ v W (he.on x) (hO.ext x) h aw_e aw_x rfl aw_b (by decide) aw_l (by omega)
  have HP : Hd (∀ W, Ext w W → Calls Tryz.prog 11 #[.string ⟨#[102, 110, 32, 109, 97, 105, 110, 32, 40, 32, 41, 32, 123, 32, 125]⟩] W fun e w' => ∃ b off uc, e = .returned (.tuple #[.slice (some ⟨b, off, none⟩) 1 uc, .int .i64 0, .int .i64 0]) ∧ w'.cell? ⟨b, off, none⟩ = some (.string ⟨#[109, 97, 105, 110]⟩) ∧ Ext W w') := fun W x => by
    refine Calls.mono (program_any mnB 50 W (he.on x) (hO.ext x) (by decide) mn_l (by omega)) ?_
    rw [mn_x]
    rintro e w' ⟨hw, h9 | ⟨_, h9, _⟩ | ⟨_, _, a, c, rfl, _, hr⟩⟩
    · exact absurd rfl h9.1
    · rw [mn_t] at h9; cases h9
    · rcases hr with h | ⟨b, off, xs, rfl, _, hx, hcx⟩
      · cases h
      · obtain ⟨pa, pc, a2, cap2, _, _, _, _, hat⟩ := hx.at (j := 0) (p := mnF) rfl
        have h0 := hcx _ _ (hat 0 (.string mnF.nm) rfl)
        rw [Nat.zero_mul, Nat.zero_add, Nat.add_zero] at h0
        exact ⟨b, off, c, rfl, h0, hw⟩
  clear he hO
  go_enter Tryz.func10, Tryz.ntmps10
  go_wp2_with (first
    | (go_at_call 9; refine Calls.mono (unhide HX) ?_; rintro e w1 ⟨ua, uc, rfl, ru, hw⟩; have X1 := hide hw; have U1 := hide ru; clear hw ru)
    | (have T9 := unhide X1; go_at_call 17; refine Calls.mono (unhide HS _ _ (T9.trans (Ext.alloc _ _)) ((unhide U1).inw (Ext.alloc _ _))) ?_; rintro e w2 ⟨rfl, hw⟩; have X2 := hide ((T9.trans (Ext.alloc _ _)).trans hw); have rr := hw.row (Go.heap_alloc_new w1 _); have b0 := rowC rr 0 rfl; have b1 := rowC rr 1 rfl; have b2 := rowC rr 2 rfl; have b3 := rowC rr 3 rfl; have b4 := rowC rr 4 rfl; clear rr; clear hw T9)
    | (have T9 := unhide X2; go_at_call 11; refine Calls.mono (unhide HP _ T9) ?_; rintro e w3 ⟨fb, fo, fc, rfl, hc, hw⟩; have X3 := hide (T9.trans hw); have b0 := hw.cell b0; have b1 := hw.cell b1; have b2 := hw.cell b2; have b3 := hw.cell b3; have b4 := hw.cell b4; clear hw T9))
  go_ret
  exact ⟨ret_bool (by first | rfl | decide +kernel | simp), unhide X3⟩

end Go.Proofs.YtbcflcnkhhkogaaGreatDoor
