/- The walk of the law ParseDeep. -/
import Derived.Test.YtbcflcnkhhkogaaGreatDoorZb41
import Derived.Test.YtbcflcnkhhkogaaGreatDoorZb43
import Derived.Test.YtbcflcnkhhkogaaGreatDoorZb44
import Derived.Test.YtbcflcnkhhkogaaGreatDoorZb45
import Derived.Test.YtbcflcnkhhkogaaGreatDoorZb46
import Derived.Test.YtbcflcnkhhkogaaGreatDoorZb47
import Derived.Test.YtbcflcnkhhkogaaGreatDoorZb48
set_option linter.unusedSimpArgs false
set_option linter.unusedVariables false
set_option maxRecDepth 10000

namespace Go.Proofs.YtbcflcnkhhkogaaGreatDoor
open Go.RowKit

theorem dpOk_all (k n : Nat) (hk : k < 6) (h1 : 1 ≤ n) (h2 : n ≤ 40) : dpOk k n = true := by
  have step : dpRow k = true → dpOk k n = true := fun h => by
    unfold dpRow at h
    rw [List.all_eq_true] at h
    have := h (n - 1) (List.mem_range.2 (by omega))
    rw [show n - 1 + 1 = n by omega] at this
    exact this
  rcases (show k = 0 ∨ k = 1 ∨ k = 2 ∨ k = 3 ∨ k = 4 ∨ k = 5 by omega) with rfl | rfl | rfl | rfl | rfl | rfl
  · exact step dp_0
  · exact step dp_1
  · exact step dp_2
  · exact step dp_3
  · exact step dp_4
  · exact step dp_5

theorem expr_ok (q : PN × PS) (W : World) (e : Ending) (w' : World) (h : ExprOf q W e w') (h0 : q.2.e = 0) : ∃ k o s n a c, e = .returned (.tuple #[.agg #[.int .i64 k, .int .i64 o, .string s, .int .i64 n, a], .int .i64 0, .int .i64 0]) ∧ (∃ x y z, a = .slice x y z) ∧ c = 0 ∧ Ext W w' := by
  obtain ⟨hw, h9 | ⟨h9, u, rfl, ru⟩⟩ := h
  · exact absurd h0 h9.1
  · obtain ⟨⟨pk, po, ps, pn, pl⟩, st⟩ := q
    rw [RepN] at ru
    obtain ⟨ua, uc, rfl, _, _⟩ := ru
    exact ⟨_, _, _, _, _, 0, rfl, ⟨_, _, _, rfl⟩, rfl, hw⟩
theorem expr_bad (q : PN × PS) (W : World) (e : Ending) (w' : World) (P E : Int) (h : ExprOf q W e w') (h1 : q.2.e = E) (h2 : q.2.pl = P) (h0 : E ≠ 0) : e = .returned (.tuple #[.agg #[.int .i64 0, .int .i64 0, .string ⟨#[]⟩, .int .i64 0, .slice none 0 0], .int .i64 P, .int .i64 E]) ∧ Ext W w' := by
  obtain ⟨hw, ⟨_, rfl⟩ | ⟨h9, _⟩⟩ := h
  · rw [h1, h2]; exact ⟨rfl, hw⟩
  · rw [h1] at h9; exact absurd h9 h0

def txD (l : List UInt8) : ByteArray := ⟨l.toArray⟩
theorem txD_app (l m : List UInt8) : txD l ++ txD m = txD (l ++ m) := by
  apply ByteArray.ext
  rw [ByteArray.data_append]
  apply Array.ext'
  simp [txD]
theorem txD_size (l : List UInt8) : (txD l).size = l.length := by simp [txD, ByteArray.size]

theorem kmaskD (a : Int) (k : Nat) (hk : 0 < k) : ∃ n : Nat, (bits .and .i64 a 65535).tmod (k : Int) = n ∧ n < k := by
  have h : ∃ n : Nat, bits .and .i64 a 65535 = n ∧ n ≤ 65535 := by
    refine ⟨(BitVec.ofInt 64 a &&& BitVec.ofInt 64 65535).toNat, ?_, ?_⟩
    · have hl : (BitVec.ofInt 64 a &&& BitVec.ofInt 64 65535).toNat ≤ 65535 := by
        rw [BitVec.toNat_and]; exact Nat.and_le_right
      show IntKind.wrap .i64 ((BitVec.ofInt 64 a &&& BitVec.ofInt 64 65535).toNat : Int) = _
      generalize (BitVec.ofInt 64 a &&& BitVec.ofInt 64 65535).toNat = n at hl
      have e : IntKind.wrap .i64 (n : Int) = if (true && decide ((n : Int) % (18446744073709551616 : Int) ≥ (9223372036854775808 : Int))) = true then (n : Int) % 18446744073709551616 - 18446744073709551616 else (n : Int) % 18446744073709551616 := rfl
      rw [e]
      have : decide ((n : Int) % (18446744073709551616 : Int) ≥ (9223372036854775808 : Int)) = false := by
        rw [decide_eq_false_iff_not]; omega
      rw [this]
      simp only [Bool.and_false, Bool.false_eq_true, if_false]
      omega
    · rw [BitVec.toNat_and]; exact Nat.and_le_right
  obtain ⟨n, hn, _⟩ := h
  refine ⟨n % k, ?_, Nat.mod_lt _ hk⟩
  rw [hn]
  exact (Int.ofNat_tmod n k).symm

set_option maxHeartbeats 1000000 in
theorem deep_0 (a0 a1 : Int) (w : World) (N : Nat) (hn : (bits .and .i64 a0 65535).tmod 40 = N) (hk : (bits .and .i64 a1 65535).tmod 6 = 0) (hN : N < 40) (he : Er w) (hO : Opx w) :
    Calls Tryz.prog 3 #[.int .i64 a0, .int .i64 a1] w fun e w' => e = .returned (.bool true) ∧ Ext w w' := by
  have HAw := hide (fun (W : World) (x : Ext w W) => awake5_w W (he.on x) (hO.ext x))
  have HEx := hide (fun (s : ByteArray) (f : Nat) (W : World) (x : Ext w W) => exprT_any s f W (he.on x) (hO.ext x))
  have HX2 : Hd (∀ o1 o2 : Obj, Ext w ((w.alloc o1).alloc o2)) := fun o1 o2 => (Ext.alloc _ _).trans (Ext.alloc _ _)
  clear he hO
  go_enter Tryz.func3, Tryz.ntmps3
  go_wp2_with fail
  go_loopw [8, 9, 10] (fun t8 t9 t10 wr => ∃ (j : Nat), t10 = .int .i64 j ∧ j ≤ N + 1 ∧ t8 = .string (txD (rp (dpO 0) j)) ∧ t9 = .string (txD (rp (dpE 0) j)) ∧ Hd (Ext w wr)) (fun _ _ t _ => N + 1 - (intOf t).toNat)
  case atStart => exact ⟨0, rfl, by omega, rfl, rfl, unhide HX2 _ _⟩
  case round =>
    obtain ⟨j, rfl, hj, rfl, rfl, hX⟩ := hrel
    have hl1 : (txD (rp (dpO 0) j)).size ≤ 200 := by rw [txD_size, rp_len]; show j * 2 ≤ _; omega
    have hl2 : (txD (rp (dpE 0) j)).size ≤ 200 := by rw [txD_size, rp_len]; show j * 2 ≤ _; omega
    by_cases hlt : j < N + 1
    · have HS1 : Hd (txD (rp (dpO 0) j) ++ ⟨#[40, 32]⟩ = txD (rp (dpO 0) (j + 1))) := txD_app (rp (dpO 0) j) (dpO 0)
      have HS2 : Hd (txD (rp (dpE 0) j) ++ ⟨#[32, 41]⟩ = txD (rp (dpE 0) (j + 1))) := txD_app (rp (dpE 0) j) (dpE 0)
      generalize txD (rp (dpO 0) j) = s1 at *
      generalize txD (rp (dpE 0) j) = s2 at *
      go_wp2_with fail
      go_roundw
      case rel => exact ⟨j + 1, by go_num, by omega, by first | rw [unhide HS1] | (rw [← unhide HS1]; rfl), by first | rw [unhide HS2] | (rw [← unhide HS2]; rfl) | (rw [← unhide HS2]; simp), hX⟩
      case measure => simp [intOf]; omega
    · obtain rfl : j = N + 1 := by omega
      have hok := dpOk_all 0 (N + 1) (by omega) (by omega) (by omega)
      unfold dpOk at hok
      rw [Bool.and_eq_true, decide_eq_true_eq] at hok
      obtain ⟨hbl, hok⟩ := hok
      have HT : Hd (txD (rp (dpO 0) (N + 1)) ++ ⟨#[97]⟩ ++ txD (rp (dpE 0) (N + 1)) = ⟨(dpS 0 (N + 1)).toArray⟩) := by
        have e1 := txD_app (rp (dpO 0) (N + 1)) [97]
        have e2 := txD_app (rp (dpO 0) (N + 1) ++ [97]) (rp (dpE 0) (N + 1))
        show txD (rp (dpO 0) (N + 1)) ++ txD [97] ++ _ = _
        rw [e1, e2]
        rfl
      have hsz : (⟨(dpS 0 (N + 1)).toArray⟩ : ByteArray).size ≤ 140737488355328 := by
        have : (txD (dpS 0 (N + 1))).size = (dpS 0 (N + 1)).length := txD_size _
        show (txD (dpS 0 (N + 1))).size ≤ _
        rw [this]
        unfold dpS
        rw [List.length_append, List.length_append, ← txD_size, ← txD_size (rp (dpE 0) (N + 1))]
        show _ + 1 + _ ≤ _
        omega
      have HC := hide (fun (W : World) (x : Ext w W) => unhide HEx ⟨(dpS 0 (N + 1)).toArray⟩ 200 W x hsz hbl (by omega))
      have hz1 : (txD (rp (dpO 0) (N + 1)) ++ (⟨#[97]⟩ : ByteArray)).size ≤ 201 := by rw [ByteArray.size_append]; show _ + 1 ≤ _; omega
      generalize txD (rp (dpO 0) (N + 1)) = s1 at *
      generalize txD (rp (dpE 0) (N + 1)) = s2 at *
      by_cases h24 : N + 1 ≤ 24
      · rw [if_pos h24, decide_eq_true_eq] at hok
        have HE : Hd (∀ W, Ext w W → Calls Tryz.prog 9 #[.string (s1 ++ ⟨#[97]⟩ ++ s2)] W fun e w' => ∃ k o s n a c, e = .returned (.tuple #[.agg #[.int .i64 k, .int .i64 o, .string s, .int .i64 n, a], .int .i64 0, .int .i64 0]) ∧ (∃ x y z, a = .slice x y z) ∧ c = 0 ∧ Ext W w') := fun W x => by
          rw [unhide HT]
          refine Calls.mono (unhide HC W x) ?_
          intro e w' h
          exact expr_ok _ W e w' h hok
        clear HC hok hbl hsz HT
        go_wp2_with (first
          | (go_at_call 9; refine Calls.mono (unhide HE _ (unhide hX)) ?_; rintro e w1 ⟨k, o, s, n, a, c, rfl, ⟨x, y, z, rfl⟩, rfl, hw⟩; have X1 := hide (((unhide hX).trans hw).trans (Ext.alloc w1 (.cells #[.int .i64 k, .int .i64 o, .string s, .int .i64 n, .slice x y z] 25))); clear hw)
          | (have T9 := unhide X1; go_at_call 10; refine Calls.mono (unhide HAw _ T9) ?_; rintro e w2 ⟨rfl, hw⟩; have X2 := hide (T9.trans hw); clear hw T9))
        go_ret
        exact ⟨rfl, unhide X2⟩
      · rw [if_neg h24, Bool.and_eq_true, decide_eq_true_eq, decide_eq_true_eq] at hok
        obtain ⟨hok1, hok2⟩ := hok
        have HE : Hd (∀ W, Ext w W → Calls Tryz.prog 9 #[.string (s1 ++ ⟨#[97]⟩ ++ s2)] W fun e w' => e = .returned (.tuple #[.agg #[.int .i64 0, .int .i64 0, .string ⟨#[]⟩, .int .i64 0, .slice none 0 0], .int .i64 48, .int .i64 21]) ∧ Ext W w') := fun W x => by
          rw [unhide HT]
          refine Calls.mono (unhide HC W x) ?_
          intro e w' h
          exact expr_bad _ W e w' _ 21 h hok1 hok2 (by decide)
        clear HC hok1 hok2 hbl hsz HT
        go_wp2_with (first
          | (go_at_call 9; refine Calls.mono (unhide HE _ (unhide hX)) ?_; rintro e w1 ⟨rfl, hw⟩; have X1 := hide (((unhide hX).trans hw).trans (Ext.alloc w1 (.cells #[.int .i64 0, .int .i64 0, .string ⟨#[]⟩, .int .i64 0, .slice none 0 0] 25))); clear hw)
          | (have T9 := unhide X1; go_at_call 10; refine Calls.mono (unhide HAw _ T9) ?_; rintro e w2 ⟨rfl, hw⟩; have X2 := hide (T9.trans hw); clear hw T9))
        go_ret
        exact ⟨rfl, unhide X2⟩

set_option maxHeartbeats 1000000 in
theorem deep_1 (a0 a1 : Int) (w : World) (N : Nat) (hn : (bits .and .i64 a0 65535).tmod 40 = N) (hk : (bits .and .i64 a1 65535).tmod 6 = 1) (hN : N < 40) (he : Er w) (hO : Opx w) :
    Calls Tryz.prog 3 #[.int .i64 a0, .int .i64 a1] w fun e w' => e = .returned (.bool true) ∧ Ext w w' := by
  have HAw := hide (fun (W : World) (x : Ext w W) => awake5_w W (he.on x) (hO.ext x))
  have HEx := hide (fun (s : ByteArray) (f : Nat) (W : World) (x : Ext w W) => exprT_any s f W (he.on x) (hO.ext x))
  have HX2 : Hd (∀ o1 o2 : Obj, Ext w ((w.alloc o1).alloc o2)) := fun o1 o2 => (Ext.alloc _ _).trans (Ext.alloc _ _)
  clear he hO
  go_enter Tryz.func3, Tryz.ntmps3
  go_wp2_with fail
  go_loopw [8, 9, 10] (fun t8 t9 t10 wr => ∃ (j : Nat), t10 = .int .i64 j ∧ j ≤ N + 1 ∧ t8 = .string (txD (rp (dpO 1) j)) ∧ t9 = .string (txD (rp (dpE 1) j)) ∧ Hd (Ext w wr)) (fun _ _ t _ => N + 1 - (intOf t).toNat)
  case atStart => exact ⟨0, rfl, by omega, rfl, rfl, unhide HX2 _ _⟩
  case round =>
    obtain ⟨j, rfl, hj, rfl, rfl, hX⟩ := hrel
    have hl1 : (txD (rp (dpO 1) j)).size ≤ 200 := by rw [txD_size, rp_len]; show j * 2 ≤ _; omega
    have hl2 : (txD (rp (dpE 1) j)).size ≤ 200 := by rw [txD_size, rp_len]; show j * 2 ≤ _; omega
    by_cases hlt : j < N + 1
    · have HS1 : Hd (txD (rp (dpO 1) j) ++ ⟨#[91, 32]⟩ = txD (rp (dpO 1) (j + 1))) := txD_app (rp (dpO 1) j) (dpO 1)
      have HS2 : Hd (txD (rp (dpE 1) j) ++ ⟨#[32, 93]⟩ = txD (rp (dpE 1) (j + 1))) := txD_app (rp (dpE 1) j) (dpE 1)
      generalize txD (rp (dpO 1) j) = s1 at *
      generalize txD (rp (dpE 1) j) = s2 at *
      go_wp2_with fail
      go_roundw
      case rel => exact ⟨j + 1, by go_num, by omega, by first | rw [unhide HS1] | (rw [← unhide HS1]; rfl), by first | rw [unhide HS2] | (rw [← unhide HS2]; rfl) | (rw [← unhide HS2]; simp), hX⟩
      case measure => simp [intOf]; omega
    · obtain rfl : j = N + 1 := by omega
      have hok := dpOk_all 1 (N + 1) (by omega) (by omega) (by omega)
      unfold dpOk at hok
      rw [Bool.and_eq_true, decide_eq_true_eq] at hok
      obtain ⟨hbl, hok⟩ := hok
      have HT : Hd (txD (rp (dpO 1) (N + 1)) ++ ⟨#[97]⟩ ++ txD (rp (dpE 1) (N + 1)) = ⟨(dpS 1 (N + 1)).toArray⟩) := by
        have e1 := txD_app (rp (dpO 1) (N + 1)) [97]
        have e2 := txD_app (rp (dpO 1) (N + 1) ++ [97]) (rp (dpE 1) (N + 1))
        show txD (rp (dpO 1) (N + 1)) ++ txD [97] ++ _ = _
        rw [e1, e2]
        rfl
      have hsz : (⟨(dpS 1 (N + 1)).toArray⟩ : ByteArray).size ≤ 140737488355328 := by
        have : (txD (dpS 1 (N + 1))).size = (dpS 1 (N + 1)).length := txD_size _
        show (txD (dpS 1 (N + 1))).size ≤ _
        rw [this]
        unfold dpS
        rw [List.length_append, List.length_append, ← txD_size, ← txD_size (rp (dpE 1) (N + 1))]
        show _ + 1 + _ ≤ _
        omega
      have HC := hide (fun (W : World) (x : Ext w W) => unhide HEx ⟨(dpS 1 (N + 1)).toArray⟩ 200 W x hsz hbl (by omega))
      have hz1 : (txD (rp (dpO 1) (N + 1)) ++ (⟨#[97]⟩ : ByteArray)).size ≤ 201 := by rw [ByteArray.size_append]; show _ + 1 ≤ _; omega
      generalize txD (rp (dpO 1) (N + 1)) = s1 at *
      generalize txD (rp (dpE 1) (N + 1)) = s2 at *
      by_cases h24 : N + 1 ≤ 24
      · rw [if_pos h24, decide_eq_true_eq] at hok
        have HE : Hd (∀ W, Ext w W → Calls Tryz.prog 9 #[.string (s1 ++ ⟨#[97]⟩ ++ s2)] W fun e w' => ∃ k o s n a c, e = .returned (.tuple #[.agg #[.int .i64 k, .int .i64 o, .string s, .int .i64 n, a], .int .i64 0, .int .i64 0]) ∧ (∃ x y z, a = .slice x y z) ∧ c = 0 ∧ Ext W w') := fun W x => by
          rw [unhide HT]
          refine Calls.mono (unhide HC W x) ?_
          intro e w' h
          exact expr_ok _ W e w' h hok
        clear HC hok hbl hsz HT
        go_wp2_with (first
          | (go_at_call 9; refine Calls.mono (unhide HE _ (unhide hX)) ?_; rintro e w1 ⟨k, o, s, n, a, c, rfl, ⟨x, y, z, rfl⟩, rfl, hw⟩; have X1 := hide (((unhide hX).trans hw).trans (Ext.alloc w1 (.cells #[.int .i64 k, .int .i64 o, .string s, .int .i64 n, .slice x y z] 25))); clear hw)
          | (have T9 := unhide X1; go_at_call 10; refine Calls.mono (unhide HAw _ T9) ?_; rintro e w2 ⟨rfl, hw⟩; have X2 := hide (T9.trans hw); clear hw T9))
        go_ret
        exact ⟨rfl, unhide X2⟩
      · rw [if_neg h24, Bool.and_eq_true, decide_eq_true_eq, decide_eq_true_eq] at hok
        obtain ⟨hok1, hok2⟩ := hok
        have HE : Hd (∀ W, Ext w W → Calls Tryz.prog 9 #[.string (s1 ++ ⟨#[97]⟩ ++ s2)] W fun e w' => e = .returned (.tuple #[.agg #[.int .i64 0, .int .i64 0, .string ⟨#[]⟩, .int .i64 0, .slice none 0 0], .int .i64 48, .int .i64 21]) ∧ Ext W w') := fun W x => by
          rw [unhide HT]
          refine Calls.mono (unhide HC W x) ?_
          intro e w' h
          exact expr_bad _ W e w' _ 21 h hok1 hok2 (by decide)
        clear HC hok1 hok2 hbl hsz HT
        go_wp2_with (first
          | (go_at_call 9; refine Calls.mono (unhide HE _ (unhide hX)) ?_; rintro e w1 ⟨rfl, hw⟩; have X1 := hide (((unhide hX).trans hw).trans (Ext.alloc w1 (.cells #[.int .i64 0, .int .i64 0, .string ⟨#[]⟩, .int .i64 0, .slice none 0 0] 25))); clear hw)
          | (have T9 := unhide X1; go_at_call 10; refine Calls.mono (unhide HAw _ T9) ?_; rintro e w2 ⟨rfl, hw⟩; have X2 := hide (T9.trans hw); clear hw T9))
        go_ret
        exact ⟨rfl, unhide X2⟩

set_option maxHeartbeats 1000000 in
theorem deep_2 (a0 a1 : Int) (w : World) (N : Nat) (hn : (bits .and .i64 a0 65535).tmod 40 = N) (hk : (bits .and .i64 a1 65535).tmod 6 = 2) (hN : N < 40) (he : Er w) (hO : Opx w) :
    Calls Tryz.prog 3 #[.int .i64 a0, .int .i64 a1] w fun e w' => e = .returned (.bool true) ∧ Ext w w' := by
  have HAw := hide (fun (W : World) (x : Ext w W) => awake5_w W (he.on x) (hO.ext x))
  have HEx := hide (fun (s : ByteArray) (f : Nat) (W : World) (x : Ext w W) => exprT_any s f W (he.on x) (hO.ext x))
  have HX2 : Hd (∀ o1 o2 : Obj, Ext w ((w.alloc o1).alloc o2)) := fun o1 o2 => (Ext.alloc _ _).trans (Ext.alloc _ _)
  clear he hO
  go_enter Tryz.func3, Tryz.ntmps3
  go_wp2_with fail
  go_loopw [8, 9, 10] (fun t8 t9 t10 wr => ∃ (j : Nat), t10 = .int .i64 j ∧ j ≤ N + 1 ∧ t8 = .string (txD (rp (dpO 2) j)) ∧ t9 = .string (txD (rp (dpE 2) j)) ∧ Hd (Ext w wr)) (fun _ _ t _ => N + 1 - (intOf t).toNat)
  case atStart => exact ⟨0, rfl, by omega, rfl, rfl, unhide HX2 _ _⟩
  case round =>
    obtain ⟨j, rfl, hj, rfl, rfl, hX⟩ := hrel
    have hl1 : (txD (rp (dpO 2) j)).size ≤ 200 := by rw [txD_size, rp_len]; show j * 4 ≤ _; omega
    have hl2 : (txD (rp (dpE 2) j)).size ≤ 200 := by rw [txD_size, rp_len]; show j * 2 ≤ _; omega
    by_cases hlt : j < N + 1
    · have HS1 : Hd (txD (rp (dpO 2) j) ++ ⟨#[102, 32, 40, 32]⟩ = txD (rp (dpO 2) (j + 1))) := txD_app (rp (dpO 2) j) (dpO 2)
      have HS2 : Hd (txD (rp (dpE 2) j) ++ ⟨#[32, 41]⟩ = txD (rp (dpE 2) (j + 1))) := txD_app (rp (dpE 2) j) (dpE 2)
      generalize txD (rp (dpO 2) j) = s1 at *
      generalize txD (rp (dpE 2) j) = s2 at *
      go_wp2_with fail
      go_roundw
      case rel => exact ⟨j + 1, by go_num, by omega, by first | rw [unhide HS1] | (rw [← unhide HS1]; rfl), by first | rw [unhide HS2] | (rw [← unhide HS2]; rfl) | (rw [← unhide HS2]; simp), hX⟩
      case measure => simp [intOf]; omega
    · obtain rfl : j = N + 1 := by omega
      have hok := dpOk_all 2 (N + 1) (by omega) (by omega) (by omega)
      unfold dpOk at hok
      rw [Bool.and_eq_true, decide_eq_true_eq] at hok
      obtain ⟨hbl, hok⟩ := hok
      have HT : Hd (txD (rp (dpO 2) (N + 1)) ++ ⟨#[97]⟩ ++ txD (rp (dpE 2) (N + 1)) = ⟨(dpS 2 (N + 1)).toArray⟩) := by
        have e1 := txD_app (rp (dpO 2) (N + 1)) [97]
        have e2 := txD_app (rp (dpO 2) (N + 1) ++ [97]) (rp (dpE 2) (N + 1))
        show txD (rp (dpO 2) (N + 1)) ++ txD [97] ++ _ = _
        rw [e1, e2]
        rfl
      have hsz : (⟨(dpS 2 (N + 1)).toArray⟩ : ByteArray).size ≤ 140737488355328 := by
        have : (txD (dpS 2 (N + 1))).size = (dpS 2 (N + 1)).length := txD_size _
        show (txD (dpS 2 (N + 1))).size ≤ _
        rw [this]
        unfold dpS
        rw [List.length_append, List.length_append, ← txD_size, ← txD_size (rp (dpE 2) (N + 1))]
        show _ + 1 + _ ≤ _
        omega
      have HC := hide (fun (W : World) (x : Ext w W) => unhide HEx ⟨(dpS 2 (N + 1)).toArray⟩ 200 W x hsz hbl (by omega))
      have hz1 : (txD (rp (dpO 2) (N + 1)) ++ (⟨#[97]⟩ : ByteArray)).size ≤ 201 := by rw [ByteArray.size_append]; show _ + 1 ≤ _; omega
      generalize txD (rp (dpO 2) (N + 1)) = s1 at *
      generalize txD (rp (dpE 2) (N + 1)) = s2 at *
      by_cases h24 : N + 1 ≤ 24
      · rw [if_pos h24, decide_eq_true_eq] at hok
        have HE : Hd (∀ W, Ext w W → Calls Tryz.prog 9 #[.string (s1 ++ ⟨#[97]⟩ ++ s2)] W fun e w' => ∃ k o s n a c, e = .returned (.tuple #[.agg #[.int .i64 k, .int .i64 o, .string s, .int .i64 n, a], .int .i64 0, .int .i64 0]) ∧ (∃ x y z, a = .slice x y z) ∧ c = 0 ∧ Ext W w') := fun W x => by
          rw [unhide HT]
          refine Calls.mono (unhide HC W x) ?_
          intro e w' h
          exact expr_ok _ W e w' h hok
        clear HC hok hbl hsz HT
        go_wp2_with (first
          | (go_at_call 9; refine Calls.mono (unhide HE _ (unhide hX)) ?_; rintro e w1 ⟨k, o, s, n, a, c, rfl, ⟨x, y, z, rfl⟩, rfl, hw⟩; have X1 := hide (((unhide hX).trans hw).trans (Ext.alloc w1 (.cells #[.int .i64 k, .int .i64 o, .string s, .int .i64 n, .slice x y z] 25))); clear hw)
          | (have T9 := unhide X1; go_at_call 10; refine Calls.mono (unhide HAw _ T9) ?_; rintro e w2 ⟨rfl, hw⟩; have X2 := hide (T9.trans hw); clear hw T9))
        go_ret
        exact ⟨rfl, unhide X2⟩
      · rw [if_neg h24, Bool.and_eq_true, decide_eq_true_eq, decide_eq_true_eq] at hok
        obtain ⟨hok1, hok2⟩ := hok
        have HE : Hd (∀ W, Ext w W → Calls Tryz.prog 9 #[.string (s1 ++ ⟨#[97]⟩ ++ s2)] W fun e w' => e = .returned (.tuple #[.agg #[.int .i64 0, .int .i64 0, .string ⟨#[]⟩, .int .i64 0, .slice none 0 0], .int .i64 96, .int .i64 21]) ∧ Ext W w') := fun W x => by
          rw [unhide HT]
          refine Calls.mono (unhide HC W x) ?_
          intro e w' h
          exact expr_bad _ W e w' _ 21 h hok1 hok2 (by decide)
        clear HC hok1 hok2 hbl hsz HT
        go_wp2_with (first
          | (go_at_call 9; refine Calls.mono (unhide HE _ (unhide hX)) ?_; rintro e w1 ⟨rfl, hw⟩; have X1 := hide (((unhide hX).trans hw).trans (Ext.alloc w1 (.cells #[.int .i64 0, .int .i64 0, .string ⟨#[]⟩, .int .i64 0, .slice none 0 0] 25))); clear hw)
          | (have T9 := unhide X1; go_at_call 10; refine Calls.mono (unhide HAw _ T9) ?_; rintro e w2 ⟨rfl, hw⟩; have X2 := hide (T9.trans hw); clear hw T9))
        go_ret
        exact ⟨rfl, unhide X2⟩

set_option maxHeartbeats 1000000 in
theorem deep_3 (a0 a1 : Int) (w : World) (N : Nat) (hn : (bits .and .i64 a0 65535).tmod 40 = N) (hk : (bits .and .i64 a1 65535).tmod 6 = 3) (hN : N < 40) (he : Er w) (hO : Opx w) :
    Calls Tryz.prog 3 #[.int .i64 a0, .int .i64 a1] w fun e w' => e = .returned (.bool true) ∧ Ext w w' := by
  have HAw := hide (fun (W : World) (x : Ext w W) => awake5_w W (he.on x) (hO.ext x))
  have HEx := hide (fun (s : ByteArray) (f : Nat) (W : World) (x : Ext w W) => exprT_any s f W (he.on x) (hO.ext x))
  have HX2 : Hd (∀ o1 o2 : Obj, Ext w ((w.alloc o1).alloc o2)) := fun o1 o2 => (Ext.alloc _ _).trans (Ext.alloc _ _)
  clear he hO
  go_enter Tryz.func3, Tryz.ntmps3
  go_wp2_with fail
  go_loopw [8, 9, 10] (fun t8 t9 t10 wr => ∃ (j : Nat), t10 = .int .i64 j ∧ j ≤ N + 1 ∧ t8 = .string (txD (rp (dpO 3) j)) ∧ t9 = .string (txD (rp (dpE 3) j)) ∧ Hd (Ext w wr)) (fun _ _ t _ => N + 1 - (intOf t).toNat)
  case atStart => exact ⟨0, rfl, by omega, rfl, rfl, unhide HX2 _ _⟩
  case round =>
    obtain ⟨j, rfl, hj, rfl, rfl, hX⟩ := hrel
    have hl1 : (txD (rp (dpO 3) j)).size ≤ 200 := by rw [txD_size, rp_len]; show j * 4 ≤ _; omega
    have hl2 : (txD (rp (dpE 3) j)).size ≤ 200 := by rw [txD_size, rp_len]; show j * 2 ≤ _; omega
    by_cases hlt : j < N + 1
    · have HS1 : Hd (txD (rp (dpO 3) j) ++ ⟨#[97, 32, 91, 32]⟩ = txD (rp (dpO 3) (j + 1))) := txD_app (rp (dpO 3) j) (dpO 3)
      have HS2 : Hd (txD (rp (dpE 3) j) ++ ⟨#[32, 93]⟩ = txD (rp (dpE 3) (j + 1))) := txD_app (rp (dpE 3) j) (dpE 3)
      generalize txD (rp (dpO 3) j) = s1 at *
      generalize txD (rp (dpE 3) j) = s2 at *
      go_wp2_with fail
      go_roundw
      case rel => exact ⟨j + 1, by go_num, by omega, by first | rw [unhide HS1] | (rw [← unhide HS1]; rfl), by first | rw [unhide HS2] | (rw [← unhide HS2]; rfl) | (rw [← unhide HS2]; simp), hX⟩
      case measure => simp [intOf]; omega
    · obtain rfl : j = N + 1 := by omega
      have hok := dpOk_all 3 (N + 1) (by omega) (by omega) (by omega)
      unfold dpOk at hok
      rw [Bool.and_eq_true, decide_eq_true_eq] at hok
      obtain ⟨hbl, hok⟩ := hok
      have HT : Hd (txD (rp (dpO 3) (N + 1)) ++ ⟨#[97]⟩ ++ txD (rp (dpE 3) (N + 1)) = ⟨(dpS 3 (N + 1)).toArray⟩) := by
        have e1 := txD_app (rp (dpO 3) (N + 1)) [97]
        have e2 := txD_app (rp (dpO 3) (N + 1) ++ [97]) (rp (dpE 3) (N + 1))
        show txD (rp (dpO 3) (N + 1)) ++ txD [97] ++ _ = _
        rw [e1, e2]
        rfl
      have hsz : (⟨(dpS 3 (N + 1)).toArray⟩ : ByteArray).size ≤ 140737488355328 := by
        have : (txD (dpS 3 (N + 1))).size = (dpS 3 (N + 1)).length := txD_size _
        show (txD (dpS 3 (N + 1))).size ≤ _
        rw [this]
        unfold dpS
        rw [List.length_append, List.length_append, ← txD_size, ← txD_size (rp (dpE 3) (N + 1))]
        show _ + 1 + _ ≤ _
        omega
      have HC := hide (fun (W : World) (x : Ext w W) => unhide HEx ⟨(dpS 3 (N + 1)).toArray⟩ 200 W x hsz hbl (by omega))
      have hz1 : (txD (rp (dpO 3) (N + 1)) ++ (⟨#[97]⟩ : ByteArray)).size ≤ 201 := by rw [ByteArray.size_append]; show _ + 1 ≤ _; omega
      generalize txD (rp (dpO 3) (N + 1)) = s1 at *
      generalize txD (rp (dpE 3) (N + 1)) = s2 at *
      by_cases h24 : N + 1 ≤ 24
      · rw [if_pos h24, decide_eq_true_eq] at hok
        have HE : Hd (∀ W, Ext w W → Calls Tryz.prog 9 #[.string (s1 ++ ⟨#[97]⟩ ++ s2)] W fun e w' => ∃ k o s n a c, e = .returned (.tuple #[.agg #[.int .i64 k, .int .i64 o, .string s, .int .i64 n, a], .int .i64 0, .int .i64 0]) ∧ (∃ x y z, a = .slice x y z) ∧ c = 0 ∧ Ext W w') := fun W x => by
          rw [unhide HT]
          refine Calls.mono (unhide HC W x) ?_
          intro e w' h
          exact expr_ok _ W e w' h hok
        clear HC hok hbl hsz HT
        go_wp2_with (first
          | (go_at_call 9; refine Calls.mono (unhide HE _ (unhide hX)) ?_; rintro e w1 ⟨k, o, s, n, a, c, rfl, ⟨x, y, z, rfl⟩, rfl, hw⟩; have X1 := hide (((unhide hX).trans hw).trans (Ext.alloc w1 (.cells #[.int .i64 k, .int .i64 o, .string s, .int .i64 n, .slice x y z] 25))); clear hw)
          | (have T9 := unhide X1; go_at_call 10; refine Calls.mono (unhide HAw _ T9) ?_; rintro e w2 ⟨rfl, hw⟩; have X2 := hide (T9.trans hw); clear hw T9))
        go_ret
        exact ⟨rfl, unhide X2⟩
      · rw [if_neg h24, Bool.and_eq_true, decide_eq_true_eq, decide_eq_true_eq] at hok
        obtain ⟨hok1, hok2⟩ := hok
        have HE : Hd (∀ W, Ext w W → Calls Tryz.prog 9 #[.string (s1 ++ ⟨#[97]⟩ ++ s2)] W fun e w' => e = .returned (.tuple #[.agg #[.int .i64 0, .int .i64 0, .string ⟨#[]⟩, .int .i64 0, .slice none 0 0], .int .i64 98, .int .i64 21]) ∧ Ext W w') := fun W x => by
          rw [unhide HT]
          refine Calls.mono (unhide HC W x) ?_
          intro e w' h
          exact expr_bad _ W e w' _ 21 h hok1 hok2 (by decide)
        clear HC hok1 hok2 hbl hsz HT
        go_wp2_with (first
          | (go_at_call 9; refine Calls.mono (unhide HE _ (unhide hX)) ?_; rintro e w1 ⟨rfl, hw⟩; have X1 := hide (((unhide hX).trans hw).trans (Ext.alloc w1 (.cells #[.int .i64 0, .int .i64 0, .string ⟨#[]⟩, .int .i64 0, .slice none 0 0] 25))); clear hw)
          | (have T9 := unhide X1; go_at_call 10; refine Calls.mono (unhide HAw _ T9) ?_; rintro e w2 ⟨rfl, hw⟩; have X2 := hide (T9.trans hw); clear hw T9))
        go_ret
        exact ⟨rfl, unhide X2⟩

set_option maxHeartbeats 1000000 in
theorem deep_4 (a0 a1 : Int) (w : World) (N : Nat) (hn : (bits .and .i64 a0 65535).tmod 40 = N) (hk : (bits .and .i64 a1 65535).tmod 6 = 4) (hN : N < 40) (he : Er w) (hO : Opx w) :
    Calls Tryz.prog 3 #[.int .i64 a0, .int .i64 a1] w fun e w' => e = .returned (.bool true) ∧ Ext w w' := by
  have HAw := hide (fun (W : World) (x : Ext w W) => awake5_w W (he.on x) (hO.ext x))
  have HEx := hide (fun (s : ByteArray) (f : Nat) (W : World) (x : Ext w W) => exprT_any s f W (he.on x) (hO.ext x))
  have HX2 : Hd (∀ o1 o2 : Obj, Ext w ((w.alloc o1).alloc o2)) := fun o1 o2 => (Ext.alloc _ _).trans (Ext.alloc _ _)
  clear he hO
  go_enter Tryz.func3, Tryz.ntmps3
  go_wp2_with fail
  go_loopw [8, 9, 10] (fun t8 t9 t10 wr => ∃ (j : Nat), t10 = .int .i64 j ∧ j ≤ N + 1 ∧ t8 = .string (txD (rp (dpO 4) j)) ∧ t9 = .string (txD (rp (dpE 4) j)) ∧ Hd (Ext w wr)) (fun _ _ t _ => N + 1 - (intOf t).toNat)
  case atStart => exact ⟨0, rfl, by omega, rfl, rfl, unhide HX2 _ _⟩
  case round =>
    obtain ⟨j, rfl, hj, rfl, rfl, hX⟩ := hrel
    have hl1 : (txD (rp (dpO 4) j)).size ≤ 200 := by rw [txD_size, rp_len]; show j * 2 ≤ _; omega
    have hl2 : (txD (rp (dpE 4) j)).size ≤ 200 := by rw [txD_size, rp_len]; show j * 0 ≤ _; omega
    by_cases hlt : j < N + 1
    · have HS1 : Hd (txD (rp (dpO 4) j) ++ ⟨#[45, 32]⟩ = txD (rp (dpO 4) (j + 1))) := txD_app (rp (dpO 4) j) (dpO 4)
      have HS2 : Hd (txD (rp (dpE 4) j) ++ ⟨#[]⟩ = txD (rp (dpE 4) (j + 1))) := txD_app (rp (dpE 4) j) (dpE 4)
      generalize txD (rp (dpO 4) j) = s1 at *
      generalize txD (rp (dpE 4) j) = s2 at *
      go_wp2_with fail
      go_roundw
      case rel => exact ⟨j + 1, by go_num, by omega, by first | rw [unhide HS1] | (rw [← unhide HS1]; rfl), by first | rw [unhide HS2] | (rw [← unhide HS2]; rfl) | (rw [← unhide HS2]; simp), hX⟩
      case measure => simp [intOf]; omega
    · obtain rfl : j = N + 1 := by omega
      have hok := dpOk_all 4 (N + 1) (by omega) (by omega) (by omega)
      unfold dpOk at hok
      rw [Bool.and_eq_true, decide_eq_true_eq] at hok
      obtain ⟨hbl, hok⟩ := hok
      have HT : Hd (txD (rp (dpO 4) (N + 1)) ++ ⟨#[97]⟩ ++ txD (rp (dpE 4) (N + 1)) = ⟨(dpS 4 (N + 1)).toArray⟩) := by
        have e1 := txD_app (rp (dpO 4) (N + 1)) [97]
        have e2 := txD_app (rp (dpO 4) (N + 1) ++ [97]) (rp (dpE 4) (N + 1))
        show txD (rp (dpO 4) (N + 1)) ++ txD [97] ++ _ = _
        rw [e1, e2]
        rfl
      have hsz : (⟨(dpS 4 (N + 1)).toArray⟩ : ByteArray).size ≤ 140737488355328 := by
        have : (txD (dpS 4 (N + 1))).size = (dpS 4 (N + 1)).length := txD_size _
        show (txD (dpS 4 (N + 1))).size ≤ _
        rw [this]
        unfold dpS
        rw [List.length_append, List.length_append, ← txD_size, ← txD_size (rp (dpE 4) (N + 1))]
        show _ + 1 + _ ≤ _
        omega
      have HC := hide (fun (W : World) (x : Ext w W) => unhide HEx ⟨(dpS 4 (N + 1)).toArray⟩ 200 W x hsz hbl (by omega))
      have hz1 : (txD (rp (dpO 4) (N + 1)) ++ (⟨#[97]⟩ : ByteArray)).size ≤ 201 := by rw [ByteArray.size_append]; show _ + 1 ≤ _; omega
      generalize txD (rp (dpO 4) (N + 1)) = s1 at *
      generalize txD (rp (dpE 4) (N + 1)) = s2 at *
      by_cases h24 : N + 1 ≤ 24
      · rw [if_pos h24, decide_eq_true_eq] at hok
        have HE : Hd (∀ W, Ext w W → Calls Tryz.prog 9 #[.string (s1 ++ ⟨#[97]⟩ ++ s2)] W fun e w' => ∃ k o s n a c, e = .returned (.tuple #[.agg #[.int .i64 k, .int .i64 o, .string s, .int .i64 n, a], .int .i64 0, .int .i64 0]) ∧ (∃ x y z, a = .slice x y z) ∧ c = 0 ∧ Ext W w') := fun W x => by
          rw [unhide HT]
          refine Calls.mono (unhide HC W x) ?_
          intro e w' h
          exact expr_ok _ W e w' h hok
        clear HC hok hbl hsz HT
        go_wp2_with (first
          | (go_at_call 9; refine Calls.mono (unhide HE _ (unhide hX)) ?_; rintro e w1 ⟨k, o, s, n, a, c, rfl, ⟨x, y, z, rfl⟩, rfl, hw⟩; have X1 := hide (((unhide hX).trans hw).trans (Ext.alloc w1 (.cells #[.int .i64 k, .int .i64 o, .string s, .int .i64 n, .slice x y z] 25))); clear hw)
          | (have T9 := unhide X1; go_at_call 10; refine Calls.mono (unhide HAw _ T9) ?_; rintro e w2 ⟨rfl, hw⟩; have X2 := hide (T9.trans hw); clear hw T9))
        go_ret
        exact ⟨rfl, unhide X2⟩
      · rw [if_neg h24, Bool.and_eq_true, decide_eq_true_eq, decide_eq_true_eq] at hok
        obtain ⟨hok1, hok2⟩ := hok
        have HE : Hd (∀ W, Ext w W → Calls Tryz.prog 9 #[.string (s1 ++ ⟨#[97]⟩ ++ s2)] W fun e w' => e = .returned (.tuple #[.agg #[.int .i64 0, .int .i64 0, .string ⟨#[]⟩, .int .i64 0, .slice none 0 0], .int .i64 48, .int .i64 21]) ∧ Ext W w') := fun W x => by
          rw [unhide HT]
          refine Calls.mono (unhide HC W x) ?_
          intro e w' h
          exact expr_bad _ W e w' _ 21 h hok1 hok2 (by decide)
        clear HC hok1 hok2 hbl hsz HT
        go_wp2_with (first
          | (go_at_call 9; refine Calls.mono (unhide HE _ (unhide hX)) ?_; rintro e w1 ⟨rfl, hw⟩; have X1 := hide (((unhide hX).trans hw).trans (Ext.alloc w1 (.cells #[.int .i64 0, .int .i64 0, .string ⟨#[]⟩, .int .i64 0, .slice none 0 0] 25))); clear hw)
          | (have T9 := unhide X1; go_at_call 10; refine Calls.mono (unhide HAw _ T9) ?_; rintro e w2 ⟨rfl, hw⟩; have X2 := hide (T9.trans hw); clear hw T9))
        go_ret
        exact ⟨rfl, unhide X2⟩

set_option maxHeartbeats 1000000 in
theorem deep_5 (a0 a1 : Int) (w : World) (N : Nat) (hn : (bits .and .i64 a0 65535).tmod 40 = N) (hk : (bits .and .i64 a1 65535).tmod 6 = 5) (hN : N < 40) (he : Er w) (hO : Opx w) :
    Calls Tryz.prog 3 #[.int .i64 a0, .int .i64 a1] w fun e w' => e = .returned (.bool true) ∧ Ext w w' := by
  have HAw := hide (fun (W : World) (x : Ext w W) => awake5_w W (he.on x) (hO.ext x))
  have HEx := hide (fun (s : ByteArray) (f : Nat) (W : World) (x : Ext w W) => exprT_any s f W (he.on x) (hO.ext x))
  have HX2 : Hd (∀ o1 o2 : Obj, Ext w ((w.alloc o1).alloc o2)) := fun o1 o2 => (Ext.alloc _ _).trans (Ext.alloc _ _)
  clear he hO
  go_enter Tryz.func3, Tryz.ntmps3
  go_wp2_with fail
  go_loopw [8, 9, 10] (fun t8 t9 t10 wr => ∃ (j : Nat), t10 = .int .i64 j ∧ j ≤ N + 1 ∧ t8 = .string (txD (rp (dpO 5) j)) ∧ t9 = .string (txD (rp (dpE 5) j)) ∧ Hd (Ext w wr)) (fun _ _ t _ => N + 1 - (intOf t).toNat)
  case atStart => exact ⟨0, rfl, by omega, rfl, rfl, unhide HX2 _ _⟩
  case round =>
    obtain ⟨j, rfl, hj, rfl, rfl, hX⟩ := hrel
    have hl1 : (txD (rp (dpO 5) j)).size ≤ 200 := by rw [txD_size, rp_len]; show j * 2 ≤ _; omega
    have hl2 : (txD (rp (dpE 5) j)).size ≤ 200 := by rw [txD_size, rp_len]; show j * 0 ≤ _; omega
    by_cases hlt : j < N + 1
    · have HS1 : Hd (txD (rp (dpO 5) j) ++ ⟨#[33, 32]⟩ = txD (rp (dpO 5) (j + 1))) := txD_app (rp (dpO 5) j) (dpO 5)
      have HS2 : Hd (txD (rp (dpE 5) j) ++ ⟨#[]⟩ = txD (rp (dpE 5) (j + 1))) := txD_app (rp (dpE 5) j) (dpE 5)
      generalize txD (rp (dpO 5) j) = s1 at *
      generalize txD (rp (dpE 5) j) = s2 at *
      go_wp2_with fail
      go_roundw
      case rel => exact ⟨j + 1, by go_num, by omega, by first | rw [unhide HS1] | (rw [← unhide HS1]; rfl), by first | rw [unhide HS2] | (rw [← unhide HS2]; rfl) | (rw [← unhide HS2]; simp), hX⟩
      case measure => simp [intOf]; omega
    · obtain rfl : j = N + 1 := by omega
      have hok := dpOk_all 5 (N + 1) (by omega) (by omega) (by omega)
      unfold dpOk at hok
      rw [Bool.and_eq_true, decide_eq_true_eq] at hok
      obtain ⟨hbl, hok⟩ := hok
      have HT : Hd (txD (rp (dpO 5) (N + 1)) ++ ⟨#[97]⟩ ++ txD (rp (dpE 5) (N + 1)) = ⟨(dpS 5 (N + 1)).toArray⟩) := by
        have e1 := txD_app (rp (dpO 5) (N + 1)) [97]
        have e2 := txD_app (rp (dpO 5) (N + 1) ++ [97]) (rp (dpE 5) (N + 1))
        show txD (rp (dpO 5) (N + 1)) ++ txD [97] ++ _ = _
        rw [e1, e2]
        rfl
      have hsz : (⟨(dpS 5 (N + 1)).toArray⟩ : ByteArray).size ≤ 140737488355328 := by
        have : (txD (dpS 5 (N + 1))).size = (dpS 5 (N + 1)).length := txD_size _
        show (txD (dpS 5 (N + 1))).size ≤ _
        rw [this]
        unfold dpS
        rw [List.length_append, List.length_append, ← txD_size, ← txD_size (rp (dpE 5) (N + 1))]
        show _ + 1 + _ ≤ _
        omega
      have HC := hide (fun (W : World) (x : Ext w W) => unhide HEx ⟨(dpS 5 (N + 1)).toArray⟩ 200 W x hsz hbl (by omega))
      have hz1 : (txD (rp (dpO 5) (N + 1)) ++ (⟨#[97]⟩ : ByteArray)).size ≤ 201 := by rw [ByteArray.size_append]; show _ + 1 ≤ _; omega
      generalize txD (rp (dpO 5) (N + 1)) = s1 at *
      generalize txD (rp (dpE 5) (N + 1)) = s2 at *
      by_cases h24 : N + 1 ≤ 24
      · rw [if_pos h24, decide_eq_true_eq] at hok
        have HE : Hd (∀ W, Ext w W → Calls Tryz.prog 9 #[.string (s1 ++ ⟨#[97]⟩ ++ s2)] W fun e w' => ∃ k o s n a c, e = .returned (.tuple #[.agg #[.int .i64 k, .int .i64 o, .string s, .int .i64 n, a], .int .i64 0, .int .i64 0]) ∧ (∃ x y z, a = .slice x y z) ∧ c = 0 ∧ Ext W w') := fun W x => by
          rw [unhide HT]
          refine Calls.mono (unhide HC W x) ?_
          intro e w' h
          exact expr_ok _ W e w' h hok
        clear HC hok hbl hsz HT
        go_wp2_with (first
          | (go_at_call 9; refine Calls.mono (unhide HE _ (unhide hX)) ?_; rintro e w1 ⟨k, o, s, n, a, c, rfl, ⟨x, y, z, rfl⟩, rfl, hw⟩; have X1 := hide (((unhide hX).trans hw).trans (Ext.alloc w1 (.cells #[.int .i64 k, .int .i64 o, .string s, .int .i64 n, .slice x y z] 25))); clear hw)
          | (have T9 := unhide X1; go_at_call 10; refine Calls.mono (unhide HAw _ T9) ?_; rintro e w2 ⟨rfl, hw⟩; have X2 := hide (T9.trans hw); clear hw T9))
        go_ret
        exact ⟨rfl, unhide X2⟩
      · rw [if_neg h24, Bool.and_eq_true, decide_eq_true_eq, decide_eq_true_eq] at hok
        obtain ⟨hok1, hok2⟩ := hok
        have HE : Hd (∀ W, Ext w W → Calls Tryz.prog 9 #[.string (s1 ++ ⟨#[97]⟩ ++ s2)] W fun e w' => e = .returned (.tuple #[.agg #[.int .i64 0, .int .i64 0, .string ⟨#[]⟩, .int .i64 0, .slice none 0 0], .int .i64 48, .int .i64 21]) ∧ Ext W w') := fun W x => by
          rw [unhide HT]
          refine Calls.mono (unhide HC W x) ?_
          intro e w' h
          exact expr_bad _ W e w' _ 21 h hok1 hok2 (by decide)
        clear HC hok1 hok2 hbl hsz HT
        go_wp2_with (first
          | (go_at_call 9; refine Calls.mono (unhide HE _ (unhide hX)) ?_; rintro e w1 ⟨rfl, hw⟩; have X1 := hide (((unhide hX).trans hw).trans (Ext.alloc w1 (.cells #[.int .i64 0, .int .i64 0, .string ⟨#[]⟩, .int .i64 0, .slice none 0 0] 25))); clear hw)
          | (have T9 := unhide X1; go_at_call 10; refine Calls.mono (unhide HAw _ T9) ?_; rintro e w2 ⟨rfl, hw⟩; have X2 := hide (T9.trans hw); clear hw T9))
        go_ret
        exact ⟨rfl, unhide X2⟩

theorem deep_walk (a0 a1 : Int) (w : World) (he : Er w) (hO : Opx w) : Calls Tryz.prog 3 #[.int .i64 a0, .int .i64 a1] w fun e w' => e = .returned (.bool true) ∧ Ext w w' := by
  obtain ⟨n, hn, hn1⟩ := kmaskD a0 40 (by decide)
  obtain ⟨k, hk, hk1⟩ := kmaskD a1 6 (by decide)
  rcases (show k = 0 ∨ k = 1 ∨ k = 2 ∨ k = 3 ∨ k = 4 ∨ k = 5 by omega) with rfl | rfl | rfl | rfl | rfl | rfl
  · exact deep_0 a0 a1 w n hn hk hn1 he hO
  · exact deep_1 a0 a1 w n hn hk hn1 he hO
  · exact deep_2 a0 a1 w n hn hk hn1 he hO
  · exact deep_3 a0 a1 w n hn hk hn1 he hO
  · exact deep_4 a0 a1 w n hn hk hn1 he hO
  · exact deep_5 a0 a1 w n hn hk hn1 he hO

end Go.Proofs.YtbcflcnkhhkogaaGreatDoor
