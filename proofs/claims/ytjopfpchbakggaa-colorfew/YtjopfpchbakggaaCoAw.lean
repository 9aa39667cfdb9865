/- awake of the law of stage 18, given what is asked of Assign, Slots and Overlap. -/
import Derived.Test.YtjopfpchbakggaaCoH
set_option linter.unusedSimpArgs false
set_option linter.unusedVariables false
set_option maxRecDepth 10000
namespace Go.Proofs.Ytjopfpchbakggaa
open Go.RowKit

def awL : List Iv := [⟨0, 1, 9⟩, ⟨1, 2, 3⟩]
def awT : List T3 := [(0, -1, 0), (1, 0, -1)]
theorem awL_pl : plT awL (cAsg awL 1).o = awT := by decide +kernel
theorem awL_good : IvGood awL := by
  refine ⟨⟨fun j k h hk => ?_, fun k hk => ?_⟩, fun j k h hk => ?_, fun k hk => ?_⟩
  · rcases (show (j = 0 ∧ k = 0) ∨ (j = 0 ∧ k = 1) ∨ (j = 1 ∧ k = 1) by simp [awL] at hk; omega) with ⟨rfl, rfl⟩ | ⟨rfl, rfl⟩ | ⟨rfl, rfl⟩ <;> decide
  · rcases (show k = 0 ∨ k = 1 by simp [awL] at hk; omega) with rfl | rfl <;> decide
  · rcases (show j = 0 ∧ k = 1 by simp [awL] at hk; omega) with ⟨rfl, rfl⟩
    decide
  · rcases (show k = 0 ∨ k = 1 by simp [awL] at hk; omega) with rfl | rfl <;> decide
theorem awT_ok : SlOk awT := ⟨by decide +kernel, fun i hi => by
  rcases (show i = 0 ∨ i = 1 by simp [awT] at hi; omega) with rfl | rfl <;> decide +kernel⟩
theorem awT_cnt : cntS awT awT.length = 1 := by decide +kernel

theorem aw_rep (W : World) (t : TypeId) : RepI (W.alloc (.cells #[.int .i64 0, .int .i64 1, .int .i64 9, .int .i64 1, .int .i64 2, .int .i64 3] t)) (In (W.alloc (.cells #[.int .i64 0, .int .i64 1, .int .i64 9, .int .i64 1, .int .i64 2, .int .i64 3] t))) (some ⟨W.heap.size, 0, none⟩) (tpI (ivT awL)) := by
  refine Or.inr ⟨W.heap.size, 0, rfl, show W.heap.size < _ by rw [World.size_alloc]; omega, fun j x hx => ?_⟩
  have e : #[Value.int .i64 0, .int .i64 1, .int .i64 9, .int .i64 1, .int .i64 2, .int .i64 3] = ((tpI (ivT awL)).map (Value.int .i64)).toArray := rfl
  rw [Nat.zero_add]
  refine cell_box W _ t j ?_
  rw [e, List.getElem?_toArray, List.getElem?_map, hx]
  rfl

set_option maxHeartbeats 1500000 in
theorem awk_w (HC : Hd CasIs) (HS : Hd SlotsIs) (HO : Hd OverIs) : AwkIs := by
  intro W
  have H1 := hide (fun (W : World) (aa : Option Addr) (h : RepI W (In W) aa (tpI (ivT awL))) => unhide HC awL 1 aa 2 W (by decide) awL_good (by decide) (by decide) h)
  rw [show ((1 : Int)).toNat = 1 from rfl, awL_pl, show awL.length = 2 from rfl] at H1
  have H2 := hide (fun (W : World) (pa : Option Addr) (pc : Nat) (h : RepI W (In W) pa (tpI awT)) => unhide HS awT pa pc W (by decide) awT_ok h)
  rw [awT_cnt, show awT.length = 2 from rfl] at H2
  have H3 := hide (fun W => unhide HO ⟨0, 0, 2⟩ ⟨0, 2, 3⟩ W (by decide) (by decide))
  go_enter Try.func8, Try.ntmps8
  go_wp2_with (first
    | (go_at_call 6; refine Calls.mono (unhide H1 _ _ (aw_rep _ _)) ?_; rintro e w2 ⟨pa, pc, rfl, hrp, hx⟩
       have RP := hide hrp
       obtain ⟨pb, po, rfl, _, x0⟩ := hrp.at (show (tpI awT)[0]? = some 0 from rfl)
       obtain ⟨pb', po', e1, _, x1⟩ := hrp.at (show (tpI awT)[1]? = some (-1) from rfl)
       injection e1 with e1; injection e1 with e1 e2; subst e1 e2
       obtain ⟨pb', po', e1, _, x2⟩ := hrp.at (show (tpI awT)[2]? = some 0 from rfl)
       injection e1 with e1; injection e1 with e1 e2; subst e1 e2
       obtain ⟨pb', po', e1, _, x3⟩ := hrp.at (show (tpI awT)[3]? = some 1 from rfl)
       injection e1 with e1; injection e1 with e1 e2; subst e1 e2
       obtain ⟨pb', po', e1, _, x4⟩ := hrp.at (show (tpI awT)[4]? = some 0 from rfl)
       injection e1 with e1; injection e1 with e1 e2; subst e1 e2
       obtain ⟨pb', po', e1, _, x5⟩ := hrp.at (show (tpI awT)[5]? = some (-1) from rfl)
       injection e1 with e1; injection e1 with e1 e2; subst e1 e2
       have X2 := hide ((Ext.alloc _ _).trans hx); clear hrp hx)
    | (go_at_call 7; refine Calls.mono (unhide H2 _ _ _ (unhide RP)) ?_; rintro e w3 ⟨rfl, hx⟩; have X3 := hide ((unhide X2).trans hx); clear hx)
    | (go_at_call 11; refine Calls.mono (unhide H3 _) ?_; rintro e w4 ⟨rfl, hx⟩; have X4 := hide ((unhide X3).trans hx); clear hx))
  go_ret
  exact ⟨rfl, unhide X4⟩

end Go.Proofs.Ytjopfpchbakggaa
