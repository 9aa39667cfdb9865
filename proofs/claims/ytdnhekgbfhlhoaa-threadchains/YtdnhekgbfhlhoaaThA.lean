/- The small calls: Has, leadsOn, ways; a value that is nil, copied. -/
import Derived.Test.YtdnhekgbfhlhoaaThF
set_option linter.unusedSimpArgs false
set_option linter.unusedVariables false
set_option maxRecDepth 10000
namespace Go.Proofs.Ytdnhekgbfhlhoaa
open Go.RowKit

/-- Is z a place of a list of n? -/
def hasP (n : Nat) (z : Int) : Bool := decide (0 ≤ z ∧ z < (n : Int))
theorem hasP_cases (n : Nat) (z : Int) : (hasP n z = false ∧ z < 0) ∨ (hasP n z = true ∧ 0 ≤ z ∧ z < (n : Int)) ∨ (hasP n z = false ∧ 0 ≤ z ∧ (n : Int) ≤ z) := by
  unfold hasP
  rcases (show z < 0 ∨ (0 ≤ z ∧ z < (n : Int)) ∨ (0 ≤ z ∧ (n : Int) ≤ z) by omega) with h | h | h
  · exact Or.inl ⟨decide_eq_false (by omega), h⟩
  · exact Or.inr (Or.inl ⟨decide_eq_true h, h⟩)
  · exact Or.inr (Or.inr ⟨decide_eq_false (by omega), h⟩)
theorem retB {b c : Bool} (h : b = c) : Ending.returned (.bool b) = Ending.returned (.bool c) := by rw [h]
theorem retI {b c : Int} (h : b = c) : Ending.returned (.int .i64 b) = Ending.returned (.int .i64 c) := by rw [h]

set_option maxHeartbeats 1000000 in
theorem hasB_w (a : Option Addr) (n c : Nat) (z : Int) (w : World) (hn : n ≤ 1000000) :
    Calls Try.prog 50 #[.slice a n c, .int .i64 z] w fun e w' => e = .returned (.bool (hasP n z)) ∧ w' = w := by
  rcases hasP_cases n z with ⟨e, h⟩ | ⟨e, h, h'⟩ | ⟨e, h, h'⟩
  all_goals
    rw [e]
    clear e
    go_enter Try.func50, Try.ntmps50
    go_wp2_with fail
    go_ret
    exact ⟨retB (by first | rfl | (simp; try omega)), rfl⟩
set_option maxHeartbeats 1000000 in
theorem hasI_w (a : Option Addr) (n c : Nat) (z : Int) (w : World) (hn : n ≤ 1000000) :
    Calls Try.prog 38 #[.slice a n c, .int .i64 z] w fun e w' => e = .returned (.bool (hasP n z)) ∧ w' = w := by
  rcases hasP_cases n z with ⟨e, h⟩ | ⟨e, h, h'⟩ | ⟨e, h, h'⟩
  all_goals
    rw [e]
    clear e
    go_enter Try.func38, Try.ntmps38
    go_wp2_with fail
    go_ret
    exact ⟨retB (by first | rfl | (simp; try omega)), rfl⟩
set_option maxHeartbeats 1000000 in
theorem hasG_w (a : Option Addr) (n c : Nat) (z : Int) (w : World) (hn : n ≤ 1000000) :
    Calls Try.prog 36 #[.slice a n c, .int .i64 z] w fun e w' => e = .returned (.bool (hasP n z)) ∧ w' = w := by
  rcases hasP_cases n z with ⟨e, h⟩ | ⟨e, h, h'⟩ | ⟨e, h, h'⟩
  all_goals
    rw [e]
    clear e
    go_enter Try.func36, Try.ntmps36
    go_wp2_with fail
    go_ret
    exact ⟨retB (by first | rfl | (simp; try omega)), rfl⟩

/-- Does a block only lead on? -/
def lead (b : RB) : Bool := b.c == 0 && b.t.k == 1
set_option maxHeartbeats 1000000 in
theorem lead_w (b : RB) (d : Option Addr × Nat) (w : World) :
    Calls Try.prog 51 #[rbV b d] w fun e w' => e = .returned (.bool (lead b)) ∧ Ext w w' := by
  obtain ⟨c, k, a, t, e⟩ := b
  unfold lead
  simp only
  by_cases hc : c = 0
  · subst hc
    by_cases hk : k = 1
    · subst hk
      go_enter Try.func51, Try.ntmps51
      go_wp2_with fail
      go_ret
      exact ⟨retB (by rfl), Ext.alloc _ _⟩
    · go_enter Try.func51, Try.ntmps51
      go_wp2_with fail
      go_ret
      exact ⟨retB (by simp [hk]), Ext.alloc _ _⟩
  · have hc2 : ((c : Int) == 0) = false := by simp; omega
    have hc3 : ¬ (c : Int) = 0 := by omega
    go_enter Try.func51, Try.ntmps51
    go_wp2_with fail
    go_ret
    exact ⟨retB (by simp [hc]), Ext.alloc _ _⟩

/-- Where an end leads. -/
def waysP (t : RT) : List Int := if t.k = 2 ∧ t.t ≠ t.e then [t.t, t.e] else if t.k = 2 ∨ t.k = 1 then [t.t] else []
theorem ext2 {w : World} (o1 o2 : Obj) : Ext w ((w.alloc o1).alloc o2) := (Ext.alloc _ _).trans (Ext.alloc _ _)
set_option maxHeartbeats 1000000 in
theorem ways_w (t : RT) (w : World) :
    Calls Try.prog 47 #[rtV t] w fun e w' => (∃ ia, e = .returned (.slice ia (waysP t).length (waysP t).length) ∧ RepI w' (In w') ia (waysP t)) ∧ Ext w w' := by
  obtain ⟨k, a, t, e⟩ := t
  unfold waysP
  simp only
  have HR : Hd (∀ (ob : Obj) (l : List Int), RepI ((w.alloc ob).alloc (.cells (zs l).toArray 3)) (In ((w.alloc ob).alloc (.cells (zs l).toArray 3))) (some ⟨w.heap.size + 1, 0, none⟩) l) := fun ob l => by
    refine Or.inr ⟨w.heap.size + 1, 0, rfl, ?_, fun j x hx => ?_⟩
    · show w.heap.size + 1 < _
      rw [sz1, sz1]
      omega
    · rw [Nat.zero_add, ← sz1 w ob]
      exact cell_box _ _ _ j (by simp [zs, hx])
  by_cases hk2 : k = 2
  · subst hk2
    by_cases hte : t = e
    · subst hte
      rw [if_neg (by simp), if_pos (by simp)]
      go_enter Try.func47, Try.ntmps47
      go_wp2_with fail
      go_ret
      exact ⟨⟨_, rfl, unhide HR _ _⟩, ext2 _ _⟩
    · rw [if_pos ⟨rfl, hte⟩]
      go_enter Try.func47, Try.ntmps47
      go_wp2_with fail
      go_ret
      exact ⟨⟨_, rfl, unhide HR _ [t, e]⟩, ext2 _ _⟩
  · rw [if_neg (by simp [hk2])]
    by_cases hk1 : k = 1
    · subst hk1
      rw [if_pos (Or.inr rfl)]
      go_enter Try.func47, Try.ntmps47
      go_wp2_with fail
      go_ret
      exact ⟨⟨_, rfl, unhide HR _ _⟩, ext2 _ _⟩
    · rw [if_neg (by omega)]
      have e1 : (k == 1) = false := by simp [hk1]
      go_enter Try.func47, Try.ntmps47
      go_wp2_with fail
      go_ret
      exact ⟨⟨_, rfl, Or.inl rfl⟩, Ext.alloc _ _⟩

end Go.Proofs.Ytdnhekgbfhlhoaa
