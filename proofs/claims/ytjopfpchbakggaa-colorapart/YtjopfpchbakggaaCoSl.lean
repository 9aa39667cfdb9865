/- Overlap and Slots of the package. -/
import Derived.Test.YtjopfpchbakggaaCoH
set_option linter.unusedSimpArgs false
set_option linter.unusedVariables false
set_option maxRecDepth 10000
namespace Go.Proofs.Ytjopfpchbakggaa
open Go.RowKit

theorem over_w : OverIs := by
  intro x y w hx hy
  obtain ⟨xr, xs, xe⟩ := x
  obtain ⟨yr, ys, ye⟩ := y
  simp only at hx hy ⊢
  have HX := hide (show Ext w ((w.alloc (Obj.cells #[Value.int IntKind.i64 xr, Value.int IntKind.i64 xs, Value.int IntKind.i64 xe] 24)).alloc (Obj.cells #[Value.int IntKind.i64 yr, Value.int IntKind.i64 ys, Value.int IntKind.i64 ye] 24)) from (Ext.alloc _ _).trans (Ext.alloc _ _))
  obtain ⟨b, hb⟩ : ∃ b, (decide (xs ≤ ye) && decide (ys ≤ xe)) = b := ⟨_, rfl⟩
  have HB := hide hb
  rw [hb]
  clear hb
  go_enter Try.func11, Try.ntmps11
  go_wp2_with fail
  all_goals go_ret
  all_goals refine ⟨?_, unhide HX⟩
  all_goals have hb := unhide HB
  all_goals subst hb
  all_goals refine congrArg (fun b => Ending.returned (Value.bool b)) ?_
  all_goals first
    | (show true = _; simp; omega)
    | (show false = _; simp; omega)
    | (show decide _ = _; simp; omega)

set_option maxHeartbeats 1500000 in
theorem slots_w0 (T : List T3) (a : Option Addr) (cap : Nat) (w : World) (hl : T.length ≤ 1000) (hb : ∀ i, i < T.length → (rwA T i).2.2 ≤ 100000) (hr : RepI w (In w) a (tpI T)) : Calls Try.prog 7 #[.slice a T.length cap] w fun e w' => e = .returned (.int .i64 (gSl T T.length : Int)) ∧ Ext w w' := by
  have HR := hide hr
  have HB := hide hb
  clear hr hb
  go_enter Try.func7, Try.ntmps7
  go_wp2_with fail
  go_loopw [3, 8] (fun t3 t8 wr => ∃ (i : Nat), t8 = .int .i64 i ∧ t3 = .int .i64 (gSl T i : Int) ∧ i ≤ T.length ∧ gSl T i ≤ 100001 ∧ Hd (Ext w wr)) (fun _ t8 _ => T.length - (intOf t8).toNat)
  case atStart => exact ⟨0, rfl, rfl, by omega, Nat.zero_le _, Ext.refl _⟩
  case round =>
    obtain ⟨i, rfl, rfl, hi, hg, hX⟩ := hrel
    by_cases hlt : i < T.length
    · have hlt2 : (i : Int) < (T.length : Int) := by omega
      obtain ⟨t, ht⟩ : ∃ t, T[i]? = some t := ⟨_, List.getElem?_eq_getElem (by omega)⟩
      have hrw : rwA T i = t := by unfold rwA; rw [ht]; rfl
      obtain ⟨p0, p1, p2⟩ := tpI_at ht
      have hrp := (unhide HR).ext (unhide hX)
      obtain ⟨pb, po, rfl, _, x0⟩ := hrp.at p0
      obtain ⟨pb', po', e1, _, x1⟩ := hrp.at p1
      injection e1 with e1; injection e1 with e1 e2; subst e1 e2
      obtain ⟨pb', po', e1, _, x2⟩ := hrp.at p2
      injection e1 with e1; injection e1 with e1 e2; subst e1 e2
      simp only [← Nat.add_assoc, Nat.zero_add] at x0 x1 x2
      have hbd := unhide HB i hlt
      have hgs : gSl T (i + 1) = if (gSl T i : Int) ≤ t.2.2 then (t.2.2 + 1).toNat else gSl T i := by rw [gSl, hrw]
      rw [hrw] at hbd
      have HG := hide hgs
      clear hrp p0 p1 p2 ht hrw hgs
      by_cases hs : (gSl T i : Int) ≤ t.2.2
      · have H1 : Hd ((gSl T (i + 1) : Int) = t.2.2 + 1) := hide (by have h := unhide HG; rw [if_pos hs] at h; rw [h]; omega)
        have hmin : min t.2.2 9223372036854775806 = t.2.2 := by omega
        go_wp2_with fail
        go_roundw
        case rel => exact ⟨i + 1, by go_num, by rw [unhide H1], by omega, by have := unhide H1; omega, (unhide hX).trans (Ext.alloc _ _)⟩
        case measure => simp [intOf]; omega
      · have H1 : Hd (gSl T (i + 1) = gSl T i) := hide (by have h := unhide HG; rw [if_neg hs] at h; exact h)
        go_wp2_with fail
        go_roundw
        case rel => exact ⟨i + 1, by go_num, by rw [unhide H1], by omega, by rw [unhide H1]; exact hg, (unhide hX).trans (Ext.alloc _ _)⟩
        case measure => simp [intOf]; omega
    · have hlt2 : ¬ (i : Int) < (T.length : Int) := by omega
      obtain rfl : i = T.length := by omega
      go_wp2_with fail
      go_ret
      exact ⟨rfl, unhide hX⟩
theorem slots_w : SlotsIs := fun T a cap w hl hs hr => by
  have := slots_w0 T a cap w hl hs.2 hr
  rw [hs.1] at this
  exact this

end Go.Proofs.Ytjopfpchbakggaa
