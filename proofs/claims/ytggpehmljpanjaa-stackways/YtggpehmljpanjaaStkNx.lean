/- What an instruction takes and leaves, and where it leads, as the program and the document tell it. -/
import Derived.Test.YtggpehmljpanjaaStkF
set_option linter.unusedSimpArgs false
set_option linter.unusedVariables false
set_option maxRecDepth 10000
namespace Go.Proofs.Ytggpehmljpanjaa
open Go.RowKit

theorem isPlace_any (k n : Int) (w : World) : Calls Try.prog 20 #[.int .i64 k, .int .i64 n] w fun e w' => e = .returned (.bool (decide (0 ≤ k ∧ k < n))) ∧ w' = w := by
  by_cases h1 : 0 ≤ k
  · by_cases h2 : k < n
    · go_enter Try.func20, Try.ntmps20
      go_wp2_with fail
      go_ret
      exact ⟨ret_bool (by simp [h1, h2]), rfl⟩
    · go_enter Try.func20, Try.ntmps20
      go_wp2_with fail
      go_ret
      exact ⟨ret_bool (by simp [h1, h2]), rfl⟩
  · go_enter Try.func20, Try.ntmps20
    go_wp2_with fail
    go_ret
    exact ⟨ret_bool (by simp; omega), rfl⟩

theorem arityK (op : Int) (w : World) : Calls Try.prog 43 #[.int .i64 op] w fun e w' => e = .returned (.int .i64 (kAr op)) ∧ w' = w := by
  have h : (1 ≤ op ∧ op ≤ 14) ∨ (15 ≤ op ∧ op ≤ 20) ∨ op < 1 ∨ 20 < op := by omega
  rcases h with ⟨h1, h2⟩ | ⟨h1, h2⟩ | h1 | h1
  · have e : kAr op = 2 := by unfold kAr; rw [if_pos ⟨h1, h2⟩]
    rw [e]
    clear e
    go_enter Try.func43, Try.ntmps43
    go_wp2_with fail
    go_ret
    exact ⟨rfl, rfl⟩
  · have e : kAr op = 1 := by unfold kAr; rw [if_neg (by omega), if_pos ⟨h1, h2⟩]
    rw [e]
    clear e
    have h3 : ¬ op ≤ 14 := by omega
    have h4 : 1 ≤ op := by omega
    go_enter Try.func43, Try.ntmps43
    go_wp2_with fail
    go_ret
    exact ⟨rfl, rfl⟩
  · have e : kAr op = 0 := by unfold kAr; rw [if_neg (by omega), if_neg (by omega)]
    rw [e]
    clear e
    have h3 : ¬ 1 ≤ op := by omega
    have h4 : ¬ 15 ≤ op := by omega
    go_enter Try.func43, Try.ntmps43
    go_wp2_with fail
    go_ret
    exact ⟨rfl, rfl⟩
  · have e : kAr op = 0 := by unfold kAr; rw [if_neg (by omega), if_neg (by omega)]
    rw [e]
    clear e
    have h3 : ¬ op ≤ 14 := by omega
    have h4 : 1 ≤ op := by omega
    have h5 : 15 ≤ op := by omega
    have h6 : ¬ op ≤ 20 := by omega
    go_enter Try.func43, Try.ntmps43
    go_wp2_with fail
    go_ret
    exact ⟨rfl, rfl⟩

set_option maxHeartbeats 2000000 in
theorem pops_any (i : KI) (w : World) : Calls Try.prog 10 #[kiV i] w fun e w' => e = .returned (.int .i64 (kPops i)) ∧ Ext w w' := by
  obtain ⟨o, a, b⟩ := i
  rcases op_cases o with rfl | rfl | rfl | rfl | rfl | rfl | rfl | rfl | rfl | rfl | rfl | rfl | rfl | ⟨h1, h2, h3, h4, h5, h6, h7, h8, h9, h10, h11, h12, h13⟩
  case inr.inr.inr.inr.inr.inr.inr.inr.inl =>
    by_cases hb : b < 0
    all_goals
      go_enter Try.func10, Try.ntmps10
      go_wp2_with fail
      go_ret
      exact ⟨by simp [kPops, hb]; try omega, Ext.alloc _ _⟩
  case inr.inr.inr.inr.inr.inr.inr.inr.inr.inr.inr.inr.inl =>
    by_cases hb : a < 0
    all_goals
      go_enter Try.func10, Try.ntmps10
      go_wp2_with fail
      go_ret
      exact ⟨by simp [kPops, hb]; try omega, Ext.alloc _ _⟩
  all_goals
    go_enter Try.func10, Try.ntmps10
    go_wp2_with fail
    go_ret
    exact ⟨by simp [kPops, *], Ext.alloc _ _⟩

set_option maxHeartbeats 2000000 in
theorem pushes_any (i : KI) (w : World) : Calls Try.prog 12 #[kiV i] w fun e w' => e = .returned (.int .i64 (kPush i)) ∧ Ext w w' := by
  obtain ⟨o, a, b⟩ := i
  rcases op_cases o with rfl | rfl | rfl | rfl | rfl | rfl | rfl | rfl | rfl | rfl | rfl | rfl | rfl | ⟨h1, h2, h3, h4, h5, h6, h7, h8, h9, h10, h11, h12, h13⟩
  all_goals
    go_enter Try.func12, Try.ntmps12
    go_wp2_with fail
    go_ret
    exact ⟨by simp [kPush, *], Ext.alloc _ _⟩

/-- What both tell of where an instruction leads. -/
def NextIs (l : List KI) (k : Int) (w : World) : Ending → World → Prop := fun e w' => ∃ b c, e = .returned (.slice b (kNext l k).length c) ∧ (kNext l k).length ≤ c ∧ RepZ w' (Fr2 w w') b (kNext l k) ∧ Ext w w'

theorem both_ways (a b : Int) (w : World) : Calls Try.prog 21 #[.int .i64 a, .int .i64 b] w fun e w' => ∃ x c, e = .returned (.slice x (kBoth a b).length c) ∧ (kBoth a b).length ≤ c ∧ RepZ w' (Fr2 w w') x (kBoth a b) ∧ Ext w w' := by
  rcases Int.lt_trichotomy a b with h | h | h
  · have h1 : ¬ a = b := by omega
    rw [show kBoth a b = [a, b] by unfold kBoth; rw [if_neg h1, if_pos h]]
    go_enter Try.func21, Try.ntmps21
    go_wp2_with fail
    go_ret
    exact ⟨_, _, rfl, by simp, repZ_two _ _ _ _, Ext.alloc _ _⟩
  · subst h
    rw [show kBoth a a = [a] by unfold kBoth; rw [if_pos rfl]]
    go_enter Try.func21, Try.ntmps21
    go_wp2_with fail
    go_ret
    exact ⟨_, _, rfl, by simp, repZ_one _ _ _, Ext.alloc _ _⟩
  · have h1 : ¬ a = b := by omega
    have h2 : ¬ a < b := by omega
    rw [show kBoth a b = [b, a] by unfold kBoth; rw [if_neg h1, if_neg h2]]
    go_enter Try.func21, Try.ntmps21
    go_wp2_with fail
    go_ret
    exact ⟨_, _, rfl, by simp, repZ_two _ _ _ _, Ext.alloc _ _⟩

theorem kLed_brz (a b k : Int) : kLed ⟨8, a, b⟩ k = kBoth a (k + 1) := by
  simp [kLed]

set_option maxHeartbeats 2000000 in
theorem next_any (l : List KI) (k : Int) (a : Option Addr) (cap : Nat) (w : World) (h : RepC w (In w) a l) (hl : l.length ≤ 1000000) :
    Calls Try.prog 15 #[.slice a l.length cap, .int .i64 k] w (NextIs l k w) := by
  by_cases hk : k < 0 ∨ (l.length : Int) ≤ k
  · have e := kNext_out hk
    have P := fun w' => isPlace_any k l.length w'
    rw [decide_eq_false (by omega)] at P
    have PP := hide P
    have E := hide e
    clear P hk e
    go_enter Try.func15, Try.ntmps15
    go_wp2_with (go_at_call 20; refine Calls.mono (unhide PP _) ?_; rintro e w1 ⟨rfl, rfl⟩)
    go_ret
    unfold NextIs
    rw [unhide E]
    exact ⟨_, _, rfl, by simp, Or.inl rfl, Ext.refl _⟩
  · obtain ⟨j, rfl⟩ : ∃ j : Nat, k = j := ⟨k.toNat, by omega⟩
    have hj : j < l.length := by omega
    obtain ⟨i, hi⟩ : ∃ i, l[j]? = some i := ⟨_, List.getElem?_eq_getElem hj⟩
    have hn := kNext_at hi
    obtain ⟨b, o, rfl, hf, c0, c1, c2⟩ := h.at hi
    unfold NextIs
    rw [hn]
    have P := fun w' => isPlace_any (j : Int) l.length w'
    rw [decide_eq_true (by omega)] at P
    have PP := hide P
    clear P hk hn hi h
    generalize l.length = N at *
    obtain ⟨p, x, y⟩ := i
    simp only at c0 c1 c2
    rcases op_cases p with rfl | rfl | rfl | rfl | rfl | rfl | rfl | rfl | rfl | rfl | rfl | rfl | rfl | ⟨h1, h2, h3, h4, h5, h6, h7, h8, h9, h10, h11, h12, h13⟩
    case inr.inr.inr.inr.inr.inr.inr.inl =>
      have BW := hide (fun w' => both_ways x ((j : Int) + 1) w')
      rw [kLed_brz]
      go_enter Try.func15, Try.ntmps15
      go_wp2_with (first | (go_at_call 20; refine Calls.mono (unhide PP _) ?_; rintro e w1 ⟨rfl, rfl⟩) | (go_at_call 21; refine Calls.mono (unhide BW _) ?_; rintro e w1 ⟨b1, c1, rfl, q1, q2, q3⟩; have Q1 := hide q1; have Q2 := hide q2; have Q3 := hide q3; clear q1 q2 q3))
      go_ret
      exact ⟨_, _, rfl, unhide Q1, unhide Q2, unhide Q3⟩
    all_goals
      go_enter Try.func15, Try.ntmps15
      go_wp2_with (go_at_call 20; refine Calls.mono (unhide PP _) ?_; rintro e w1 ⟨rfl, rfl⟩)
      go_ret
      simp [kLed, *]
      first | exact ⟨Or.inl rfl, Ext.refl _⟩ | exact ⟨_, _, ⟨rfl, rfl⟩, by simp, repZ_one _ _ _, Ext.alloc _ _⟩

end Go.Proofs.Ytggpehmljpanjaa
