/- The document's all: whether a list lies in another. -/
import Derived.Test.YtpfjafjpijmckaaGrRf
set_option linter.unusedSimpArgs false
set_option linter.unusedVariables false
set_option maxRecDepth 10000
namespace Go.Proofs.Ytpfjafjpijmckaa
open Go.RowKit

theorem gHas_contains (x : Nat) : ∀ (l : List Nat), gHas (x : Int) l = l.contains x
  | [] => rfl
  | y :: l => by
    rw [gHas, List.contains_cons, gHas_contains x l]
    by_cases h : (y : Int) = (x : Int)
    · rw [if_pos h]
      have : x = y := by omega
      simp [this]
    · rw [if_neg h]
      have : ¬ x = y := by omega
      simp [this]
theorem all_cut (l m : List Nat) (i : Nat) (y : Nat) (hy : l[i]? = some y) : (l.drop i).all (fun x => m.contains x) = (m.contains y && (l.drop (i + 1)).all (fun x => m.contains x)) := by
  obtain ⟨h, e⟩ := List.getElem?_eq_some_iff.1 hy
  rw [List.drop_eq_getElem_cons h, e, List.all_cons]

set_option maxHeartbeats 2000000 in
theorem all_w (l m : List Nat) (a b : Option Addr) (c d : Nat) (w : World) (hl : l.length ≤ 1000000) (hm : m.length ≤ 1000000) (h : RepI w (In w) a (l.map (fun (x : Nat) => (x : Int)))) (k : RepI w (In w) b (m.map (fun (x : Nat) => (x : Int)))) :
    Calls Try.prog 42 #[.slice a l.length c, .slice b m.length d] w fun e w' => e = .returned (.bool (l.all (fun x => m.contains x))) ∧ w' = w := by
  have HR := hide h
  have HC : Hd (∀ (x : Nat), Calls Try.prog 41 #[.slice b m.length d, .int .i64 (x : Int)] w fun e w' => e = .returned (.bool (m.contains x)) ∧ w' = w) := fun x => by
    rw [← gHas_contains]
    exact has_w m b d (x : Int) w hm k
  clear h k
  obtain ⟨R, hR⟩ : ∃ R, R = l.all (fun x => m.contains x) := ⟨_, rfl⟩
  rw [← hR]
  have HQ0 : Hd ((l.drop 0).all (fun x => m.contains x) = R) := by rw [List.drop_zero]; exact hR.symm
  clear hR
  go_enter Try.func42, Try.ntmps42
  go_wp2_with fail
  go_loopw [5] (fun t wr => ∃ (i : Nat), t = .int .i64 (i : Int) ∧ i ≤ l.length ∧ Hd ((l.drop i).all (fun x => m.contains x) = R) ∧ Hd (wr = w)) (fun t _ => l.length - (intOf t).toNat)
  case atStart => exact ⟨0, rfl, by omega, HQ0, rfl⟩
  case round =>
    clear HQ0
    obtain ⟨i, rfl, hi, hq, hw⟩ := hrel
    rw [unhide hw]
    by_cases hlt : i < l.length
    · obtain ⟨y, hy⟩ : ∃ y, l[i]? = some y := ⟨_, List.getElem?_eq_getElem hlt⟩
      obtain ⟨lb, lo, rfl, _, cy⟩ := (unhide HR).at (j := i) (x := (y : Int)) (by rw [List.getElem?_map, hy]; rfl)
      have hqq := unhide hq
      rw [all_cut l m i y hy] at hqq
      have hcl := unhide HC y
      cases hcn : m.contains y with
      | false =>
        rw [hcn] at hqq hcl
        have HQ := hide hqq
        have HCL := hide hcl
        clear hqq hcl hcn hy
        go_wp2_with (go_at_call 41; refine Calls.mono (unhide HCL) ?_; rintro e w3 ⟨rfl, rfl⟩)
        go_ret
        rw [← unhide HQ]
        exact ⟨rfl, rfl⟩
      | true =>
        rw [hcn, Bool.true_and] at hqq
        rw [hcn] at hcl
        have HQ := hide hqq
        have HCL := hide hcl
        clear hqq hcl hcn hy
        go_wp2_with (go_at_call 41; refine Calls.mono (unhide HCL) ?_; rintro e w3 ⟨rfl, rfl⟩)
        go_roundw
        case rel => exact ⟨i + 1, by go_num, by omega, HQ, by first | exact rfl | (unfold Hd; trivial)⟩
        case measure => simp [intOf]; omega
    · obtain rfl : i = l.length := by omega
      have hqq := unhide hq
      rw [List.drop_length, List.all_nil] at hqq
      have HQ := hide hqq
      clear hqq
      go_wp2_with fail
      go_ret
      rw [← unhide HQ]
      exact ⟨rfl, rfl⟩
end Go.Proofs.Ytpfjafjpijmckaa
