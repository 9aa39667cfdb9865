/- The document's answer for words: its digits, letters, numbers, words of the language, ops. -/
import Derived.Test.YtbncceknldjbjaaDoorLexLaw
set_option linter.unusedSimpArgs false
set_option linter.unusedVariables false
set_option maxRecDepth 10000
namespace Go.Proofs.YtbncceknldjbjaaDoor
open Go.RowKit

theorem rdigit_any (c : UInt8) (w : World) : Calls Tryd.prog 16 #[.int .u8 c.toNat] w fun e w' => e = .returned (.bool (dg c)) ∧ w' = w := by
  have h := c.toNat_lt
  have D := hide (dg_iff c)
  rcases (show c.toNat < 48 ∨ (48 ≤ c.toNat ∧ c.toNat ≤ 57) ∨ 57 < c.toNat by omega) with h1 | ⟨h1, h2⟩ | h1
  all_goals
    go_enter Tryd.func16, Tryd.ntmps16
    go_wp2
    go_ret
    refine ⟨ret_bool ?_, rfl⟩
    rw [Bool.eq_iff_iff, unhide D]
    simp <;> omega

set_option maxHeartbeats 1000000 in
theorem rletter_A (c : UInt8) (w : World) (h1 : c.toNat < 65) : Calls Tryd.prog 18 #[.int .u8 c.toNat] w fun e w' => e = .returned (.bool (nm c)) ∧ w' = w := by
  have h := c.toNat_lt
  have e95 : ((c.toNat : Int) == 95) = false := by simp; omega
  have hn := hide (nm_dg c h1)
  have i0 : ¬ ((97 : Int) ≤ c.toNat) := by omega
  have i1 : ¬ ((65 : Int) ≤ c.toNat) := by omega
  clear h1
  go_enter Tryd.func18, Tryd.ntmps18
  go_wp2_with (go_at_call 16; refine (rdigit_any _ _).mono ?_; rintro e w' ⟨rfl, rfl⟩)
  go_ret
  exact ⟨ret_bool (unhide hn).symm, rfl⟩

set_option maxHeartbeats 1000000 in
theorem rletter_B (c : UInt8) (w : World) (h1 : 65 ≤ c.toNat ∧ c.toNat ≤ 90) : Calls Tryd.prog 18 #[.int .u8 c.toNat] w fun e w' => e = .returned (.bool (nm c)) ∧ w' = w := by
  have h := c.toNat_lt
  have e95 : ((c.toNat : Int) == 95) = false := by simp; omega
  have hn := hide (nm_yes c (by omega))
  have i0 : ¬ ((97 : Int) ≤ c.toNat) := by omega
  have i1 : (65 : Int) ≤ c.toNat := by omega
  have i2 : (c.toNat : Int) ≤ 90 := by omega
  clear h1
  go_enter Tryd.func18, Tryd.ntmps18
  go_wp2_with (go_at_call 16; refine (rdigit_any _ _).mono ?_; rintro e w' ⟨rfl, rfl⟩)
  go_ret
  exact ⟨ret_bool (unhide hn).symm, rfl⟩

set_option maxHeartbeats 1000000 in
theorem rletter_C (c : UInt8) (w : World) (h1 : 90 < c.toNat ∧ c.toNat < 95) : Calls Tryd.prog 18 #[.int .u8 c.toNat] w fun e w' => e = .returned (.bool (nm c)) ∧ w' = w := by
  have h := c.toNat_lt
  have e95 : ((c.toNat : Int) == 95) = false := by simp; omega
  have hn := hide (nm_no c (by omega))
  have i0 : ¬ ((97 : Int) ≤ c.toNat) := by omega
  have i1 : (65 : Int) ≤ c.toNat := by omega
  have i2 : ¬ ((c.toNat : Int) ≤ 90) := by omega
  clear h1
  go_enter Tryd.func18, Tryd.ntmps18
  go_wp2_with (go_at_call 16; refine (rdigit_any _ _).mono ?_; rintro e w' ⟨rfl, rfl⟩)
  go_ret
  exact ⟨ret_bool (unhide hn).symm, rfl⟩

set_option maxHeartbeats 1000000 in
theorem rletter_D (c : UInt8) (w : World) (h1 : c.toNat = 95) : Calls Tryd.prog 18 #[.int .u8 c.toNat] w fun e w' => e = .returned (.bool (nm c)) ∧ w' = w := by
  have h := c.toNat_lt
  have e95 : ((c.toNat : Int) == 95) = true := by simp; omega
  have hn := hide (nm_yes c (by omega))
  have i0 : ¬ ((97 : Int) ≤ c.toNat) := by omega
  have i1 : (65 : Int) ≤ c.toNat := by omega
  have i2 : ¬ ((c.toNat : Int) ≤ 90) := by omega
  clear h1
  go_enter Tryd.func18, Tryd.ntmps18
  go_wp2_with (go_at_call 16; refine (rdigit_any _ _).mono ?_; rintro e w' ⟨rfl, rfl⟩)
  go_ret
  exact ⟨ret_bool (unhide hn).symm, rfl⟩

set_option maxHeartbeats 1000000 in
theorem rletter_E (c : UInt8) (w : World) (h1 : c.toNat = 96) : Calls Tryd.prog 18 #[.int .u8 c.toNat] w fun e w' => e = .returned (.bool (nm c)) ∧ w' = w := by
  have h := c.toNat_lt
  have e95 : ((c.toNat : Int) == 95) = false := by simp; omega
  have hn := hide (nm_no c (by omega))
  have i0 : ¬ ((97 : Int) ≤ c.toNat) := by omega
  have i1 : (65 : Int) ≤ c.toNat := by omega
  have i2 : ¬ ((c.toNat : Int) ≤ 90) := by omega
  clear h1
  go_enter Tryd.func18, Tryd.ntmps18
  go_wp2_with (go_at_call 16; refine (rdigit_any _ _).mono ?_; rintro e w' ⟨rfl, rfl⟩)
  go_ret
  exact ⟨ret_bool (unhide hn).symm, rfl⟩

set_option maxHeartbeats 1000000 in
theorem rletter_F (c : UInt8) (w : World) (h1 : 97 ≤ c.toNat ∧ c.toNat ≤ 122) : Calls Tryd.prog 18 #[.int .u8 c.toNat] w fun e w' => e = .returned (.bool (nm c)) ∧ w' = w := by
  have h := c.toNat_lt
  have e95 : ((c.toNat : Int) == 95) = false := by simp; omega
  have hn := hide (nm_yes c (by omega))
  have i0 : (97 : Int) ≤ c.toNat := by omega
  have i1 : (c.toNat : Int) ≤ 122 := by omega
  clear h1
  go_enter Tryd.func18, Tryd.ntmps18
  go_wp2_with (go_at_call 16; refine (rdigit_any _ _).mono ?_; rintro e w' ⟨rfl, rfl⟩)
  go_ret
  exact ⟨ret_bool (unhide hn).symm, rfl⟩

set_option maxHeartbeats 1000000 in
theorem rletter_G (c : UInt8) (w : World) (h1 : 122 < c.toNat) : Calls Tryd.prog 18 #[.int .u8 c.toNat] w fun e w' => e = .returned (.bool (nm c)) ∧ w' = w := by
  have h := c.toNat_lt
  have e95 : ((c.toNat : Int) == 95) = false := by simp; omega
  have hn := hide (nm_no c (by omega))
  have i0 : (97 : Int) ≤ c.toNat := by omega
  have i1 : ¬ ((c.toNat : Int) ≤ 122) := by omega
  have i2 : (65 : Int) ≤ c.toNat := by omega
  have i3 : ¬ ((c.toNat : Int) ≤ 90) := by omega
  clear h1
  go_enter Tryd.func18, Tryd.ntmps18
  go_wp2_with (go_at_call 16; refine (rdigit_any _ _).mono ?_; rintro e w' ⟨rfl, rfl⟩)
  go_ret
  exact ⟨ret_bool (unhide hn).symm, rfl⟩

theorem rletter_any (c : UInt8) (w : World) : Calls Tryd.prog 18 #[.int .u8 c.toNat] w fun e w' => e = .returned (.bool (nm c)) ∧ w' = w := by
  have h := c.toNat_lt
  rcases (show (c.toNat < 65) ∨ (65 ≤ c.toNat ∧ c.toNat ≤ 90) ∨ (90 < c.toNat ∧ c.toNat < 95) ∨ (c.toNat = 95) ∨ (c.toNat = 96) ∨ (97 ≤ c.toNat ∧ c.toNat ≤ 122) ∨ (122 < c.toNat) by omega) with h | h | h | h | h | h | h
  · exact rletter_A c w h
  · exact rletter_B c w h
  · exact rletter_C c w h
  · exact rletter_D c w h
  · exact rletter_E c w h
  · exact rletter_F c w h
  · exact rletter_G c w h

theorem ret_ib {a b : Int} {p q : Bool} (h : a = b) (k : p = q) : Ending.returned (.tuple #[.int .i64 a, .bool p]) = .returned (.tuple #[.int .i64 b, .bool q]) := by rw [h, k]

/-- The number of digits, if it is not too great. -/
def numR (l : List UInt8) : Option Nat := if dv 0 l ≤ 9223372036854775807 then some (dv 0 l) else none

set_option maxHeartbeats 2000000 in
theorem rnumber_any (s : ByteArray) (w : World) (hs : s.size ≤ 4000) (hd : ∀ c ∈ L s, dg c = true) :
    Calls Tryd.prog 17 #[.string s] w fun e w' => e = .returned (.tuple #[.int .i64 ((numR (L s)).getD 0 : Nat), .bool (numR (L s)).isSome]) ∧ w' = w := by
  go_enter Tryd.func17, Tryd.ntmps17
  go_wp2
  go_loop [4, 5] (fun v i => ∃ k m : Nat, k ≤ s.size ∧ i = .int .i64 k ∧ v = .int .i64 m ∧ m ≤ 9223372036854775807 ∧ Hd (dv 0 (L s) = dv m ((L s).drop k))) (fun _ i => s.size - (intOf i).toNat)
  case atStart => exact ⟨0, 0, Nat.zero_le _, rfl, rfl, by omega, by rw [List.drop_zero]; exact rfl⟩
  case round =>
    obtain ⟨k, m, hk, rfl, rfl, hm, hI⟩ := hrel
    by_cases hlt : k < s.size
    · have hdg : dg s[k] = true := hd _ (List.mem_of_getElem? (L_get s k hlt))
      have hdn := (dg_iff _).1 hdg
      obtain ⟨d, hd'⟩ : ∃ d, d = s[k].toNat - 48 := ⟨_, rfl⟩
      have hsub : (s[k].toNat : Int) - 48 = (d : Int) := by omega
      have hd9 : d ≤ 9 := by omega
      have E : Hd (dv 0 (L s) = dv (m * 10 + d) ((L s).drop (k + 1))) := by
        rw [unhide hI, L_drop s k hlt, dv_cons, ← hd']; exact rfl
      have hsn : 48 ≤ (s[k].toNat : Int) := by omega
      clear hd' hdn hdg
      by_cases hb : m * 10 + d ≤ 9223372036854775807
      · have hq : ¬ ((9223372036854775807 - (d : Int)) / 10 < (m : Int)) := by omega
        go_wp2
        go_round
        case rel => exact ⟨k + 1, m * 10 + d, by omega, by go_num, by go_num, hb, E⟩
        case measure => simp [intOf]; omega
      · have hq : (9223372036854775807 - (d : Int)) / 10 < (m : Int) := by omega
        have G : Hd (numR (L s) = none) := by
          have := dv_ge ((L s).drop (k + 1)) (m * 10 + d)
          unfold numR
          rw [if_neg (by rw [unhide E]; omega)]
          exact rfl
        go_wp2
        go_ret2
        exact ⟨ret_ib (by rw [unhide G]; rfl) (by rw [unhide G]; rfl), rfl⟩
    · have E : Hd (numR (L s) = some m) := by
        unfold numR
        rw [unhide hI, L_end s k (by omega), dv_nil, if_pos hm]
        exact rfl
      go_wp2
      go_ret2
      exact ⟨ret_ib (by rw [unhide E]; rfl) (by rw [unhide E]; rfl), rfl⟩

/-- The words of the language, in their order. -/
def wds : List (List UInt8) := [[102, 110], [108, 101, 116], [105, 102], [101, 108, 115, 101], [119, 104, 105, 108, 101], [98, 114, 101, 97, 107], [99, 111, 110, 116, 105, 110, 117, 101], [114, 101, 116, 117, 114, 110], [112, 114, 105, 110, 116], [110, 105, 108]]
theorem word_any (l : List UInt8) : wordL l = wds.any fun x => x == l := by
  have hc : (wds.any fun x => x == l) = wds.any fun x => l == x := congrArg (wds.any ·) (funext fun x => by rw [Bool.eq_iff_iff, beq_iff_eq, beq_iff_eq]; exact eq_comm)
  rw [hc]
  simp only [wds, List.any_cons, List.any_nil, wordL, Bool.or_false, Bool.or_assoc]

set_option maxHeartbeats 2000000 in
theorem risWord_any (s : ByteArray) (w : World) :
    Calls Tryd.prog 19 #[.string s] w fun e w' => e = .returned (.bool (wordL (L s))) ∧ Ext w w' := by
  have K : Hd (wordL (L s) = wds.any fun x => x == s.toList) := by rw [toL, word_any]; exact rfl
  go_enter Tryd.func19, Tryd.ntmps19
  go_wp2
  obtain ⟨W1, hW1⟩ : ∃ W1, W1 = w.alloc (Obj.cells #[Value.string { data := #[102, 110] }, Value.string { data := #[108, 101, 116] }, Value.string { data := #[105, 102] }, Value.string { data := #[101, 108, 115, 101] }, Value.string { data := #[119, 104, 105, 108, 101] }, Value.string { data := #[98, 114, 101, 97, 107] }, Value.string { data := #[99, 111, 110, 116, 105, 110, 117, 101] }, Value.string { data := #[114, 101, 116, 117, 114, 110] }, Value.string { data := #[112, 114, 105, 110, 116] }, Value.string { data := #[110, 105, 108] }] 9) := ⟨_, rfl⟩
  rw [← hW1]
  have hcell : ∀ k (hk : k < 10), W1.cell? ⟨w.heap.size, k, none⟩ = some (.string ⟨(wds[k]'(by exact hk)).toArray⟩) := by
    intro k hk
    rw [hW1]
    refine cell_box w _ _ k ?_
    rcases (show k = 0 ∨ k = 1 ∨ k = 2 ∨ k = 3 ∨ k = 4 ∨ k = 5 ∨ k = 6 ∨ k = 7 ∨ k = 8 ∨ k = 9 by omega) with rfl | rfl | rfl | rfl | rfl | rfl | rfl | rfl | rfl | rfl <;> rfl
  have X : Hd (Ext w W1) := by rw [hW1]; exact Ext.alloc _ _
  clear hW1
  go_loop [4] (fun i => ∃ k : Nat, k ≤ 10 ∧ i = .int .i64 k ∧ Hd (((wds.take k).any fun x => x == s.toList) = false)) (fun i => 10 - (intOf i).toNat)
  case atStart => exact ⟨0, Nat.zero_le _, rfl, rfl⟩
  case round =>
    obtain ⟨k, hk, rfl, hI⟩ := hrel
    by_cases hlt : k < 10
    · have hc := hcell k hlt
      have hts : wds.take (k + 1) = wds.take k ++ [wds[k]'(by exact hlt)] := List.take_succ_eq_append_getElem (by exact hlt)
      have TS := hide hts
      clear hts
      have htl : (⟨(wds[k]'(by exact hlt)).toArray⟩ : ByteArray).toList = wds[k]'(by exact hlt) := ByteArray.toList_mk _
      have HM : Hd (wds[k]'(by exact hlt) ∈ wds) := List.getElem_mem _
      obtain ⟨x, hx⟩ : ∃ x, x = wds[k]'(by exact hlt) := ⟨_, rfl⟩
      rw [← hx] at hc TS htl HM
      clear hx hcell
      cases hb : (x == s.toList) with
      | true =>
        go_wp2
        go_ret
        refine ⟨ret_bool ?_, unhide X⟩
        rw [unhide K]
        exact (List.any_eq_true.2 ⟨x, unhide HM, hb⟩).symm
      | false =>
        have hN : Hd (((wds.take (k + 1)).any fun x => x == s.toList) = false) := by
          rw [unhide TS, List.any_append, unhide hI]
          show (false || ((x == s.toList) || false)) = false
          rw [hb]; rfl
        go_wp2
        go_round
        case rel => exact ⟨k + 1, by omega, by go_num, hN⟩
        case measure => simp [intOf]; omega
    · have hF : Hd (wordL (L s) = false) := by
        rw [unhide K]
        have := unhide hI
        rw [List.take_of_length_le (by show 10 ≤ k; omega)] at this
        exact this
      go_wp2
      go_ret
      exact ⟨ret_bool (unhide hF).symm, unhide X⟩

end Go.Proofs.YtbncceknldjbjaaDoor
