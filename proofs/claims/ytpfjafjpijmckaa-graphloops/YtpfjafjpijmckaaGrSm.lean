/- Two rows of the same numbers, or truths, are the same; a graph that is not too great. -/
import Derived.Test.YtpfjafjpijmckaaGrRow
set_option linter.unusedSimpArgs false
set_option linter.unusedVariables false
set_option maxRecDepth 10000
namespace Go.Proofs.Ytpfjafjpijmckaa
open Go.RowKit

theorem ext_drewS (w : World) (n : Nat) : Ext w (w.drewN n) := by
  induction n with
  | zero => exact Ext.refl _
  | succ n ih => exact Ext.drew ih

set_option maxHeartbeats 1000000 in
theorem sameInts_w (l : List Int) (a b : Option Addr) (ca cb : Nat) (F F' : Nat → Prop) (w : World) (h1 : RepI w F a l) (h2 : RepI w F' b l) (hl : l.length ≤ 1000000) :
    Calls Try.prog 11 #[.slice a l.length ca, .slice b l.length cb] w fun e w' => e = .returned (.bool true) ∧ Ext w w' := by
  go_enter Try.func11, Try.ntmps11
  go_wp2_with fail
  go_loopw [5] (fun t wr => ∃ j : Nat, t = .int .i64 j ∧ j ≤ l.length ∧ Hd (Ext w wr)) (fun t _ => l.length - (intOf t).toNat)
  case atStart => exact ⟨0, rfl, by omega, Ext.refl w⟩
  case round =>
    obtain ⟨j, rfl, hj, hw⟩ := hrel
    by_cases hlt : j < l.length
    · obtain ⟨x, hx⟩ : ∃ x, l[j]? = some x := ⟨_, List.getElem?_eq_getElem hlt⟩
      obtain ⟨b1, o1, rfl, _, c1⟩ := h1.at hx
      obtain ⟨b2, o2, rfl, _, c2⟩ := h2.at hx
      have d1 := (unhide hw).cell c1
      have d2 := (unhide hw).cell c2
      clear c1 c2 hx h1 h2
      go_wp2_with fail
      go_quiet (fail)
      go_wp2_with fail
      go_roundw
      case rel => exact ⟨j + 1, by go_num, by omega, (unhide hw).trans (ext_drewS _ _)⟩
      case measure => simp [intOf]; omega
    · have hje : j = l.length := by omega
      subst hje
      go_wp2_with fail
      go_ret
      exact ⟨rfl, unhide hw⟩

set_option maxHeartbeats 1000000 in
theorem bools_w (l : List Bool) (a b ca cb : Nat) (w : World) (h1 : Row w a 4 (bsV l)) (h2 : Row w b 4 (bsV l)) (hl : l.length ≤ 1000000) :
    Calls Try.prog 19 #[.slice (some ⟨a, 0, none⟩) l.length ca, .slice (some ⟨b, 0, none⟩) l.length cb] w fun e w' => e = .returned (.bool true) ∧ Ext w w' := by
  have H1 := hide h1
  have H2 := hide h2
  clear h1 h2
  go_enter Try.func19, Try.ntmps19
  go_wp2_with fail
  go_loopw [5] (fun t wr => ∃ j : Nat, t = .int .i64 j ∧ j ≤ l.length ∧ Hd (Ext w wr)) (fun t _ => l.length - (intOf t).toNat)
  case atStart => exact ⟨0, rfl, by omega, Ext.refl w⟩
  case round =>
    obtain ⟨j, rfl, hj, hw⟩ := hrel
    by_cases hlt : j < l.length
    · obtain ⟨x, hx⟩ : ∃ x, l[j]? = some x := ⟨_, List.getElem?_eq_getElem hlt⟩
      have d1 := (unhide hw).cell ((unhide H1).cell j (bs_at hx))
      have d2 := (unhide hw).cell ((unhide H2).cell j (bs_at hx))
      clear hx
      go_wp2_with fail
      go_quiet (fail)
      go_wp2_with fail
      cases x
      all_goals
        go_roundw
        case rel => exact ⟨j + 1, by go_num, by omega, (unhide hw).trans (ext_drewS _ _)⟩
        case measure => simp [intOf]; omega
    · have hje : j = l.length := by omega
      subst hje
      go_wp2_with fail
      go_ret
      exact ⟨rfl, unhide hw⟩

end Go.Proofs.Ytpfjafjpijmckaa
