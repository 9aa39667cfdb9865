/- What the statement of any text's number does, out of the contracts. -/
import Derived.Test.YtglpdjkddekblabTextIn
set_option linter.unusedSimpArgs false
namespace Go.Proofs.Ytglpdjkddekblab
open Go.RowKit

theorem place35 (a : Int) : ∃ k : Nat, (wrap64 (a.tmod 35 + 35)).tmod 35 = (k : Int) ∧ k < 35 := by
  have h1 : -35 < a.tmod 35 := by
    have := Int.lt_tmod_of_pos a (b := 35) (by decide); omega
  have h2 : a.tmod 35 < 35 := Int.tmod_lt_of_pos a (by decide)
  have e : wrap64 (a.tmod 35 + 35) = a.tmod 35 + 35 := by unfold Go.RowKit.wrap64; omega
  rw [e]
  have h3 : (a.tmod 35 + 35).tmod 35 = (a.tmod 35 + 35) % 35 := Int.tmod_eq_emod_of_nonneg (by omega)
  refine ⟨((a.tmod 35 + 35) % 35).toNat, ?_, ?_⟩
  · rw [h3]; omega
  · omega

theorem mask2 (a : Int) : ∃ m : Int, bits .and .i64 a 3 = m ∧ 0 ≤ m ∧ m ≤ 3 := by
  refine ⟨((BitVec.ofInt 64 a &&& BitVec.ofInt 64 3).toNat : Int), ?_, by omega, ?_⟩
  · have hl : (BitVec.ofInt 64 a &&& BitVec.ofInt 64 3).toNat ≤ 3 := by
      rw [BitVec.toNat_and]; exact Nat.and_le_right
    show IntKind.wrap .i64 ((BitVec.ofInt 64 a &&& BitVec.ofInt 64 3).toNat : Int) = _
    generalize (BitVec.ofInt 64 a &&& BitVec.ofInt 64 3).toNat = n at hl
    have e : IntKind.wrap .i64 (n : Int) = if (true && decide ((n : Int) % (18446744073709551616 : Int) ≥ (9223372036854775808 : Int))) = true then (n : Int) % 18446744073709551616 - 18446744073709551616 else (n : Int) % 18446744073709551616 := rfl
    rw [e]
    have : decide ((n : Int) % (18446744073709551616 : Int) ≥ (9223372036854775808 : Int)) = false := by
      rw [decide_eq_false_iff_not]; omega
    rw [this]
    simp only [Bool.and_false, Bool.false_eq_true, if_false]
    omega
  · have : (BitVec.ofInt 64 a &&& BitVec.ofInt 64 3).toNat ≤ 3 := by
      rw [BitVec.toNat_and]; exact Nat.and_le_right
    omega

/-- One byte of memory made a text. -/
theorem run_text_one (c : UInt8) (g : Nat) (W : World) (h : W.cell? ⟨g, 0, none⟩ = some (.int .u8 (c.toNat : Int))) : (convert 39 9 (.slice (some ⟨g, 0, none⟩) 1 1)).run Try.prog W = .ok (.string ⟨#[c]⟩) W := by
  rw [run_convert_bytes_string W 39 9 5 _ _ _ Try.underlying39 Try.underlying5 Try.underlying9]
  rw [run_bytesToString W ⟨g, 0, none⟩ 1 1 [(c.toNat : Int)] ?_]
  · simp only [List.foldl_cons, List.foldl_nil, Int.toNat_natCast, UInt8.ofNat_toNat]
    rfl
  · have := run_loadCells_list (P := Try.prog) (w := W) ⟨g, 0, none⟩ [.int .u8 (c.toNat : Int)] (fun j u hj => by
      match j, hj with
      | 0, hj => simp at hj; subst hj; simpa [Addr.add] using h)
    exact this

theorem byte_of {n : Int} (h0 : 0 ≤ n) (h1 : n ≤ 255) : ∃ c : UInt8, n = (c.toNat : Int) :=
  ⟨UInt8.ofNat n.toNat, by rw [UInt8.toNat_ofNat']; omega⟩

theorem below_then {a W w1 : World} (X : Below a.heap.size a W) (bel : Below W.heap.size W w1) : Below a.heap.size a w1 := X.trans (bel.mono X.size)
theorem below_one (a : World) (o : Obj) : Below a.heap.size a (a.alloc o) := (Below.refl _ _).alloc (Nat.le_refl _) _
theorem below_two (a : World) (o p : Obj) : Below a.heap.size a ((a.alloc o).alloc p) := (below_one a o).alloc (below_one a o).size _

set_option maxHeartbeats 2000000 in
theorem reads_walk (a b : Nat) (at' : Int) (by' : UInt8) (how : Int) (ha : Wd a) (hb : Wd b) (w : World) :
    Calls Try.prog 4 #[.int .u64 a, .int .u64 b, .int .i64 at', .int .u8 by'.toNat, .int .i64 how] w fun e w' => e = .returned (.bool true) ∧ Below w.heap.size w w' := by
  have hz := txt_size (cl1 a b) (cl2 a b)
  obtain ⟨k, hk, hk35⟩ := place35 at'
  have hcv := run_text_one by'
  obtain ⟨m, hm, hm0, hm3⟩ := mask2 how
  have hs := bitsB_self
  go_enter Try.func4, Try.ntmps4
  go_wp2_with (first | (go_at_call 6; refine (lof_any _ _ _).mono ?_; rintro e w' ⟨rfl, hw⟩; obtain rfl := hw.symm) | (go_at_call 15; refine (cxtext_any _ _ _ ?_ ?_).mono ?_; assumption; assumption; rintro e w' ⟨rfl, hw⟩; obtain rfl := hw.symm))
  go_region
  rcases (show m = 1 ∨ m = 2 ∨ (m ≠ 1 ∧ m ≠ 2) by omega) with rfl | rfl | ⟨m1, m2⟩
  · go_wp2
    go_region
    go_wp2_with (first | (go_at_call 13; refine (parse_any _ _).mono ?_; rintro e w' ⟨rfl, hw⟩; obtain rfl := hw.symm) | (go_at_call 17; refine (cxparse_any _ _).mono ?_; rintro e w1 ⟨rfl, bel⟩) | (go_at_call 9; refine (lbits_any _ _ _ _ _).mono ?_; rintro e w' ⟨rfl, hw⟩; obtain rfl := hw.symm) | (go_at_call 16; refine (awake_any _).mono ?_; rintro e w' ⟨rfl, n, rfl⟩))
    go_ret
    exact ⟨rfl, below_drewN (below_then (below_one _ _).drew.drew bel) _⟩
  · go_wp2
    go_region
    go_wp2_with (first | (go_at_call 13; refine (parse_any _ _).mono ?_; rintro e w' ⟨rfl, hw⟩; obtain rfl := hw.symm) | (go_at_call 17; refine (cxparse_any _ _).mono ?_; rintro e w1 ⟨rfl, bel⟩) | (go_at_call 9; refine (lbits_any _ _ _ _ _).mono ?_; rintro e w' ⟨rfl, hw⟩; obtain rfl := hw.symm) | (go_at_call 16; refine (awake_any _).mono ?_; rintro e w' ⟨rfl, n, rfl⟩))
    go_ret
    exact ⟨rfl, below_drewN (below_then (below_two _ _ _).drew.drew bel) _⟩
  · have g1 : (m == 1) = false := by simpa using m1
    have g2 : (m == 2) = false := by simpa using m2
    go_wp2_with (first | (go_at_call 13; refine (parse_any _ _).mono ?_; rintro e w' ⟨rfl, hw⟩; obtain rfl := hw.symm) | (go_at_call 17; refine (cxparse_any _ _).mono ?_; rintro e w1 ⟨rfl, bel⟩) | (go_at_call 9; refine (lbits_any _ _ _ _ _).mono ?_; rintro e w' ⟨rfl, hw⟩; obtain rfl := hw.symm) | (go_at_call 16; refine (awake_any _).mono ?_; rintro e w' ⟨rfl, n, rfl⟩))
    go_ret
    exact ⟨rfl, below_drewN (below_then (below_one _ _).drew bel) _⟩

end Go.Proofs.Ytglpdjkddekblab
