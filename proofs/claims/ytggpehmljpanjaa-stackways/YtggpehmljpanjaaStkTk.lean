/- Ticks: a call has its own; what counts for a cycle. -/
import Derived.Test.YtggpehmljpanjaaStkHt
set_option linter.unusedSimpArgs false
set_option linter.unusedVariables false
set_option maxRecDepth 10000
namespace Go.Proofs.Ytggpehmljpanjaa
open Go.RowKit

/-- Is the instruction at a place no call without its tick, nor leads to a call past it? -/
def kCallT (code : List KI) (j : Nat) : Option Bool :=
  match code[j]? with
  | none => none
  | some i =>
    if i.op = 9 then (match j with
      | 0 => some false
      | p + 1 => match code[p]? with
        | none => none
        | some q => some (decide (q.op = 12)))
    else if i.op = 7 ∨ i.op = 8 then (if i.a < 0 then none else match code[i.a.toNat]? with
        | none => none
        | some q => some (decide (¬ q.op = 9)))
    else some true

/-- Does it count for a cycle: come to, and no tick? -/
def kCnt (code : List KI) (hs : List Int) (j : Nat) : Option Bool :=
  match hs[j]?, code[j]? with
  | some x, some i => some (decide (¬ x = -1) && decide (¬ i.op = 12))
  | _, _ => none

set_option maxHeartbeats 1000000 in
theorem callT_any (code : List KI) (j : Nat) (r : Bool) (a : Option Addr) (cap : Nat) (w : World) (hc : RepC w (In w) a code) (hn : code.length ≤ 1000000) (hr : kCallT code j = some r) :
    Calls Try.prog 32 #[.slice a code.length cap, .int .i64 (j : Int)] w fun e w' => e = .returned (.bool r) ∧ Ext w w' := by
  unfold kCallT at hr
  cases hi : code[j]? with
  | none => rw [hi] at hr; cases hr
  | some i =>
  rw [hi] at hr
  simp only at hr
  obtain ⟨b, o, rfl, hf, d0, d1, d2⟩ := hc.at hi
  have hj : j < code.length := (List.getElem?_eq_some_iff.1 hi).1
  obtain ⟨p, x, y⟩ := i
  simp only at d0 d1 d2 hr
  by_cases h9 : p = 9
  · subst h9
    rw [if_pos rfl] at hr
    cases j with
    | zero =>
      simp only at hr
      injection hr with hr
      subst hr
      generalize code.length = n at *
      clear hc hi
      rw [Nat.zero_mul, Nat.add_zero] at d0 d1 d2
      show Calls Try.prog 32 #[.slice (some ⟨b, o, none⟩) n cap, .int .i64 0] w _
      go_enter Try.func32, Try.ntmps32
      go_wp2_with fail
      go_ret
      exact ⟨rfl, Ext.alloc _ _⟩
    | succ j =>
      simp only at hr
      cases hq : code[j]? with
      | none => rw [hq] at hr; cases hr
      | some q =>
      rw [hq] at hr
      injection hr with hr
      obtain ⟨b2, o2, e2, _, q0, q1, q2⟩ := hc.at hq
      injection e2 with e2
      injection e2 with e2 e3
      subst e2 e3
      have hq0 := (Ext.alloc w (.cells #[.int .i64 9, .int .i64 x, .int .i64 y] 23)).cell q0
      have hj2 : ((j : Int) + 1 - 1) = (j : Int) := by omega
      have ht : (q.op == 12) = r := by rw [← hr]; by_cases h : q.op = 12 <;> simp [h]
      generalize code.length = n at *
      clear hc hi hq hr
      go_enter Try.func32, Try.ntmps32
      go_wp2_with fail
      go_ret
      exact ⟨ret_bool (by first | rfl | exact ht | simpa using ht), Ext.alloc _ _⟩
  · rw [if_neg h9] at hr
    by_cases h78 : p = 7 ∨ p = 8
    · rw [if_pos h78] at hr
      by_cases hx : x < 0
      · rw [if_pos hx] at hr; cases hr
      · rw [if_neg hx] at hr
        obtain ⟨z, rfl⟩ : ∃ z : Nat, x = z := ⟨x.toNat, by omega⟩
        rw [show ((z : Int)).toNat = z by omega] at hr
        cases hq : code[z]? with
        | none => rw [hq] at hr; cases hr
        | some q =>
        rw [hq] at hr
        injection hr with hr
        obtain ⟨b2, o2, e2, _, q0, q1, q2⟩ := hc.at hq
        have hz : z < code.length := (List.getElem?_eq_some_iff.1 hq).1
        injection e2 with e2
        injection e2 with e2 e3
        subst e2 e3
        have ht : (q.op != 9) = r := by rw [← hr]; by_cases h : q.op = 9 <;> simp [h]
        generalize code.length = n at *
        have hq0 := fun ob => (Ext.alloc w ob).cell q0
        clear hc hi hq hr hx h9
        rcases h78 with rfl | rfl
        all_goals
          go_enter Try.func32, Try.ntmps32
          go_wp2_with fail
          go_ret
          exact ⟨ret_bool (by first | rfl | exact ht | simpa using ht), Ext.alloc _ _⟩
    · rw [if_neg h78] at hr
      injection hr with hr
      subst hr
      have h7 : (p == 7) = false := by rw [beq_eq_false_iff_ne]; omega
      have h8 : (p == 8) = false := by rw [beq_eq_false_iff_ne]; omega
      have h9' : (p == 9) = false := by rw [beq_eq_false_iff_ne]; exact h9
      generalize code.length = n at *
      clear hc hi h78 h9
      go_enter Try.func32, Try.ntmps32
      go_wp2_with fail
      go_ret
      exact ⟨rfl, Ext.alloc _ _⟩

set_option maxHeartbeats 1000000 in
/-- The closure that tells whether a place counts. -/
theorem cnt_any (code : List KI) (hs : List Int) (j : Nat) (r : Bool) (a ha : Option Addr) (cap hcap X Y : Nat) (w : World) (hc : RepC w (In w) a code) (hh : RepZ w (In w) ha hs) (hl : hs.length = code.length) (hn : code.length ≤ 1000000) (hr : kCnt code hs j = some r)
    (hX : w.cell? ⟨X, 0, none⟩ = some (.slice a code.length cap)) (hY : w.cell? ⟨Y, 0, none⟩ = some (.slice ha code.length hcap)) :
    Calls Try.prog 36 #[.int .i64 (j : Int), .pointer (some ⟨Y, 0, none⟩), .pointer (some ⟨X, 0, none⟩)] w fun e w' => e = .returned (.bool r) ∧ w' = w := by
  unfold kCnt at hr
  cases hx : hs[j]? with
  | none => rw [hx] at hr; cases hr
  | some x =>
  cases hi : code[j]? with
  | none => rw [hx, hi] at hr; cases hr
  | some i =>
  rw [hx, hi] at hr
  injection hr with hr
  obtain ⟨b, o, rfl, hf, d0, d1, d2⟩ := hc.at hi
  have hj : j < code.length := (List.getElem?_eq_some_iff.1 hi).1
  obtain ⟨hb, rfl, hcell⟩ : ∃ hb, ha = some ⟨hb, 0, none⟩ ∧ w.cell? ⟨hb, j, none⟩ = some (.int .i64 x) := by
    rcases hh with rfl | ⟨hb, rfl, _, h⟩
    · simp at hx
    · exact ⟨hb, rfl, h j x hx⟩
  generalize code.length = n at *
  clear hc hh hx hi hl
  by_cases h1 : x = -1
  · have e1 : (x != -1) = false := by simp [h1]
    have hr : r = false := by rw [← hr]; simp [h1]
    subst hr
    clear h1
    go_enter Try.func36, Try.ntmps36
    go_wp2_with fail
    go_ret
    exact ⟨rfl, rfl⟩
  · have e1 : (x != -1) = true := by simp [h1]
    have ht : (i.op != 12) = r := by rw [← hr]; by_cases h : i.op = 12 <;> simp [h, h1]
    clear h1 hr
    go_enter Try.func36, Try.ntmps36
    go_wp2_with fail
    go_ret
    exact ⟨ret_bool (by first | rfl | exact ht | simpa using ht), rfl⟩

end Go.Proofs.Ytggpehmljpanjaa
