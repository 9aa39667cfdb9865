/- The walk of the law GenBounds. · From what a row lists of the package-level variables to what the walks ask of memory: the table of operators, the names of the operations, the six that are called by name, the sentinel of a range error. · From what a row lists of gen.shapes to what the walks ask of memory. -/
import Derived.Test.YtlgdjeiendmniaaGreatDoorZg40
import Derived.Test.YtlgdjeiendmniaaGreatDoorZh4
import Derived.Test.YtlgdjeiendmniaaGreatDoorZh5
import Derived.Test.YtlgdjeiendmniaaGreatDoorZg28
import Derived.Test.YtlgdjeiendmniaaGreatDoorRows
import Derived.Lib.LaidU8
import Derived.LaidMore
import Derived.LaidLaws
import Derived.ProofKit
import Derived.Test.YtlgdjeiendmniaaGreatDoorZg35
set_option linter.unusedSimpArgs false
set_option linter.unusedVariables false
set_option maxRecDepth 10000

namespace Go.Proofs.YtlgdjeiendmniaaGreatDoor
open Go.RowKit

theorem kmaskG (a : Int) (k : Nat) (hk : 0 < k) : ∃ n : Nat, (bits .and .i64 a 65535).tmod (k : Int) = n ∧ n < k := by
  have h : ∃ n : Nat, bits .and .i64 a 65535 = n ∧ n ≤ 65535 := by
    refine ⟨(BitVec.ofInt 64 a &&& BitVec.ofInt 64 65535).toNat, ?_, ?_⟩
    · have hl : (BitVec.ofInt 64 a &&& BitVec.ofInt 64 65535).toNat ≤ 65535 := by
        rw [BitVec.toNat_and]; exact Nat.and_le_right
      show IntKind.wrap .i64 ((BitVec.ofInt 64 a &&& BitVec.ofInt 64 65535).toNat : Int) = _
      generalize (BitVec.ofInt 64 a &&& BitVec.ofInt 64 65535).toNat = n at hl
      have e : IntKind.wrap .i64 (n : Int) = if (true && decide ((n : Int) % (18446744073709551616 : Int) ≥ (9223372036854775808 : Int))) = true then (n : Int) % 18446744073709551616 - 18446744073709551616 else (n : Int) % 18446744073709551616 := rfl
      rw [e]
      have : decide ((n : Int) % (18446744073709551616 : Int) ≥ (9223372036854775808 : Int)) = false := by
        rw [decide_eq_false_iff_not]; omega
      rw [this]
      simp only [Bool.and_false, Bool.false_eq_true, if_false]
      omega
    · rw [BitVec.toNat_and]; exact Nat.and_le_right
  obtain ⟨n, hn, _⟩ := h
  refine ⟨n % k, ?_, Nat.mod_lt _ hk⟩
  rw [hn]
  exact (Int.ofNat_tmod n k).symm
def gd1 (n : Nat) : List UInt8 := gdA ++ rp gdU n

set_option maxHeartbeats 2000000 in
theorem bounds_lo (a0 a1 : Int) (n d : Nat) (w : World) (hn : (bits .and .i64 a0 65535).tmod 300 = (n : Int)) (hd : (bits .and .i64 a1 65535).tmod 24 = (d : Int)) (hnl : n < 300) (hnc : n ≤ 249) (hdl : d < 24) (he : Er w) (hO : Opx w) (hT : Tbl w) (hP : Shp w) :
    Calls Tryz.prog 4 #[.int .i64 a0, .int .i64 a1] w fun e w' => e = .returned (.bool true) ∧ Ext w w' := by
  obtain ⟨hbd, pl, F, m, hsrc, hvt⟩ := bd_gives d hdl
  have hgl := gdT_len n
  have hbl := bdT_len d
  have hs1 := gd_gsrc n (by omega)
  rw [if_pos (by omega)] at hs1
  have hs0 := (gd_src n (by omega)).1
  have HAw := hide (fun (W : World) (x : Ext w W) => awake8_w W (he.on x) (hO.ext x) (hT.ext x) (hP.ext x))
  have HSa : Hd (∀ s : ByteArray, s = ⟨(gdT n).toArray⟩ → Calls Tryz.prog 5 #[.string s] w fun e' w' => ∃ pa pc, e' = .returned (.tuple #[V.kpV pa 1 pc 0, .int .i64 0, .int .i64 0]) ∧ V.RepP w' (Up w w') pa [gdF n] ∧ Ext w w') := fun s hs => by
    subst hs
    refine (gsource_w ⟨(gdT n).toArray⟩ 5000 100000 10 2000 w 0 0 0 [gdF n] he hO hT hP (by show (txG (gdT n)).size ≤ _; rw [txG_size, hgl]; omega) hs0 (by decide) (by decide) (by decide) hs1).mono ?_
    rintro e w' ⟨pa, pc, h1, h2, h3⟩
    exact ⟨pa, pc, h1, h2 rfl, h3⟩
  have HSb : Hd (∀ (s : ByteArray) (W : World), Ext w W → s = ⟨(bdT d).toArray⟩ → Calls Tryz.prog 5 #[.string s] W fun e' w' => ∃ pa pc, e' = .returned (.tuple #[V.kpV pa 1 pc m, .int .i64 pl, .int .i64 0]) ∧ V.RepP w' (Up W w') pa [F] ∧ Ext W w') := fun s W x hs => by
    subst hs
    refine (gsource_w ⟨(bdT d).toArray⟩ 400 10000 100 5000 W 0 pl m [F] (he.on x) (hO.ext x) (hT.ext x) (hP.ext x) (by show (txG (bdT d)).size ≤ _; rw [txG_size, hbl]; omega) hbd (by decide) (by decide) (by decide) hsrc).mono ?_
    rintro e w' ⟨pa, pc, h1, h2, h3⟩
    exact ⟨pa, pc, h1, h2 rfl, h3⟩
  have HVt : Hd (∀ (W : World) (pa : Option Addr) (pc : Nat), V.RepP W (V.In W) pa [F] → Calls Tryz.prog 7 #[V.kpV pa 1 pc m, .int .i64 0] W fun e w' => e = .returned (.tuple #[.int .i64 ((d : Int) + 1), .int .i64 0]) ∧ Ext W w') := fun W pa pc hr => V.virtual_w [F] 0 pa pc m 5000 ((d : Int) + 1, 0) W hr (by simp) (kfB_of (gSrc_ok hsrc)) (by decide) hvt
  clear he hO hT hP hsrc hvt hbd hs0 hs1 hgl hbl
  go_enter Tryz.func4, Tryz.ntmps4
  go_wp2_with fail
  go_loopw [5, 6] (fun sv i wr => ∃ (j : Nat), i = .int .i64 j ∧ j ≤ n ∧ sv = .string (txG (gd1 j)) ∧ wr = w) (fun _ i _ => n - (intOf i).toNat)
  case atStart => exact ⟨0, rfl, by omega, rfl, rfl⟩
  case round =>
    obtain ⟨j, rfl, hj, rfl, hX⟩ := hrel
    obtain rfl := hX.symm
    have hl1 : (txG (gd1 j)).size ≤ 2000 := by rw [txG_size]; unfold gd1; rw [List.length_append, rp_len]; show 14 + j * 6 ≤ _; omega
    by_cases hlt : j < n
    · have HS1 : Hd (txG (gd1 j) ++ ⟨#[49, 61, 61, 49, 59, 32]⟩ = txG (gd1 (j + 1))) := by
        refine (txG_app (gd1 j) gdU).trans ?_
        unfold gd1
        rw [rp, List.append_assoc]
      generalize txG (gd1 j) = s1 at *
      go_wp2_with fail
      go_roundw
      case rel => exact ⟨j + 1, by go_num, by omega, by first | rw [unhide HS1] | (rw [← unhide HS1]; rfl), by first | rfl | trivial⟩
      case measure => simp [intOf]; omega
    · obtain rfl : j = n := by omega
      have HS1 : Hd (txG (gd1 j) ++ ⟨#[125]⟩ = ⟨(gdT j).toArray⟩) := txG_app (gd1 j) [125]
      have HC := hide (unhide HSa _ (unhide HS1))
      clear HSa HS1 hlt hj
      generalize txG (gd1 j) = s1 at *
      go_wp2_with (go_at_call 5; refine Calls.mono (unhide HC) ?_; rintro e w1 ⟨pa, pc, rfl, hr, hX⟩; have X1 := hide hX; obtain ⟨b, o, ca, cc, ka, kc, rfl, hb, c0, c1, c2, c3, c4, hrl, hrc⟩ := V.RepP.at hr (j := 0) (f := gdF j) rfl; rw [show (gdF j).code.length = 4 * j + 2 from gdC_len j] at c4; simp only [Nat.zero_mul, Nat.add_zero] at c4; have c4 := (fun ob => (Ext.alloc w1 ob).cell c4); clear c0 c1 c2 c3 hb hrl hrc; clear hX hr)
      obtain ⟨W2, hW2⟩ : ∃ W2, W2 = w1.alloc (.cells #[.slice (some ⟨b, o, none⟩) 1 pc, .int .i64 0] 24) := ⟨_, rfl⟩
      rw [← hW2]
      have X2 : Hd (Ext w W2) := by unfold Hd; rw [hW2]; exact (unhide X1).trans (Ext.alloc _ _)
      clear hW2 HC c4
      go_loopw [10, 11] (fun sv i wr => ∃ (k : Nat), i = .int .i64 k ∧ k ≤ d ∧ sv = .string (txG (rp bdO k)) ∧ wr = W2) (fun _ i _ => d - (intOf i).toNat)
      case atStart => exact ⟨0, rfl, by omega, rfl, rfl⟩
      case round =>
        obtain ⟨k, rfl, hk, rfl, hX⟩ := hrel
        obtain rfl := hX.symm
        have hl2 : (txG (rp bdO k)).size ≤ 200 := by rw [txG_size, rp_len]; show k * 6 ≤ _; omega
        by_cases hlt : k < d
        · have HS1 : Hd (txG (rp bdO k) ++ ⟨#[49, 32, 43, 32, 40, 32]⟩ = txG (rp bdO (k + 1))) := txG_app (rp bdO k) bdO
          generalize txG (rp bdO k) = s2 at *
          go_wp2_with fail
          go_roundw
          case rel => exact ⟨k + 1, by go_num, by omega, by first | rw [unhide HS1] | (rw [← unhide HS1]; rfl), by first | rfl | trivial⟩
          case measure => simp [intOf]; omega
        · obtain rfl : k = d := by omega
          have HS1 : Hd (txG (rp bdO k) ++ ⟨#[49]⟩ = txG (bd2 k 0)) := by
            refine (txG_app (rp bdO k) [49]).trans ?_
            unfold bd2
            rw [show rp bdE 0 = [] from rfl, List.append_nil]
          generalize txG (rp bdO k) = s2 at *
          go_wp2_with fail
          rw [unhide HS1]
          clear HS1 hl2 hlt hk
          go_loopw [10, 12] (fun sv i wr => ∃ (z : Nat), i = .int .i64 z ∧ z ≤ k ∧ sv = .string (txG (bd2 k z)) ∧ wr = W2) (fun _ i _ => k - (intOf i).toNat)
          case atStart => exact ⟨0, rfl, by omega, rfl, rfl⟩
          case round =>
            obtain ⟨z, rfl, hz, rfl, hX⟩ := hrel
            obtain rfl := hX.symm
            have hl2 : (txG (bd2 k z)).size ≤ 300 := by rw [txG_size]; unfold bd2; rw [List.length_append, List.length_append, rp_len, rp_len]; show k * 6 + 1 + z * 2 ≤ _; omega
            by_cases hlt : z < k
            · have HS1 : Hd (txG (bd2 k z) ++ ⟨#[32, 41]⟩ = txG (bd2 k (z + 1))) := by
                refine (txG_app (bd2 k z) bdE).trans ?_
                unfold bd2
                rw [show rp bdE (z + 1) = rp bdE z ++ bdE from rfl, List.append_assoc (rp bdO k ++ [49])]
              generalize txG (bd2 k z) = s2 at *
              go_wp2_with fail
              go_roundw
              case rel => exact ⟨z + 1, by go_num, by omega, by first | rw [unhide HS1] | (rw [← unhide HS1]; rfl), by first | rfl | trivial⟩
              case measure => simp [intOf]; omega
            · obtain rfl : z = k := by omega
              have HS1 : Hd (⟨#[102, 110, 32, 109, 97, 105, 110, 32, 40, 32, 41, 32, 123, 32, 112, 114, 105, 110, 116, 32]⟩ ++ txG (bd2 z z) ++ ⟨#[32, 59, 32, 125]⟩ = (⟨(bdT z).toArray⟩ : ByteArray)) := by
                show txG bdP ++ txG (bd2 z z) ++ _ = _
                have e1 : txG bdP ++ txG (bd2 z z) = txG (bdP ++ bd2 z z) := txG_app bdP (bd2 z z)
                rw [e1]
                exact txG_app (bdP ++ bd2 z z) [32, 59, 32, 125]
              have HC := hide (unhide HSb _ W2 (unhide X2) (unhide HS1))
              have hz3 : (⟨#[102, 110, 32, 109, 97, 105, 110, 32, 40, 32, 41, 32, 123, 32, 112, 114, 105, 110, 116, 32]⟩ ++ txG (bd2 z z) : ByteArray).size ≤ 400 := by rw [ByteArray.size_append]; show 20 + _ ≤ _; omega
              clear HSb HS1 hlt hz
              generalize txG (bd2 z z) = s2 at *
              go_wp2_with (first
                | (go_at_call 5; refine Calls.mono (unhide HC) ?_; rintro e w3 ⟨pb, pd, rfl, hr, hX⟩; have X3 := hide ((unhide X2).trans hX); have RP : Hd (∀ ob, V.RepP (w3.alloc ob) (V.In (w3.alloc ob)) pb [F]) := (fun ob => hr.to (fun q hq => ⟨Nat.lt_of_lt_of_le hq.2 (Ext.alloc w3 ob).size, (Ext.alloc w3 ob).block q hq.2⟩)); clear hX hr)
                | (go_at_call 7; refine Calls.mono (unhide HVt _ pb pd (unhide RP _)) ?_; rintro e w4 ⟨rfl, hw⟩; have X4 := hide (((unhide X3).trans (Ext.alloc _ _)).trans hw); clear hw)
                | (go_at_call 6; refine Calls.mono (unhide HAw _ (unhide X4)) ?_; rintro e w5 ⟨rfl, hw⟩; have X5 := hide ((unhide X4).trans hw); clear hw))
              go_ret
              exact ⟨rfl, unhide X5⟩

set_option maxHeartbeats 2000000 in
theorem bounds_hi (a0 a1 : Int) (n d : Nat) (w : World) (hn : (bits .and .i64 a0 65535).tmod 300 = (n : Int)) (hd : (bits .and .i64 a1 65535).tmod 24 = (d : Int)) (hnl : n < 300) (hnc : 250 ≤ n) (hdl : d < 24) (he : Er w) (hO : Opx w) (hT : Tbl w) (hP : Shp w) :
    Calls Tryz.prog 4 #[.int .i64 a0, .int .i64 a1] w fun e w' => e = .returned (.bool true) ∧ Ext w w' := by
  obtain ⟨hbd, pl, F, m, hsrc, hvt⟩ := bd_gives d hdl
  have hgl := gdT_len n
  have hbl := bdT_len d
  have hs1 := gd_gsrc n (by omega)
  rw [if_neg (by omega)] at hs1
  have hs0 := (gd_src n (by omega)).1
  have HAw := hide (fun (W : World) (x : Ext w W) => awake8_w W (he.on x) (hO.ext x) (hT.ext x) (hP.ext x))
  have HSa : Hd (∀ s : ByteArray, s = ⟨(gdT n).toArray⟩ → Calls Tryz.prog 5 #[.string s] w fun e' w' => ∃ pa pc, e' = .returned (.tuple #[V.kpV pa 0 pc 0, .int .i64 0, .int .i64 5]) ∧ True ∧ Ext w w') := fun s hs => by
    subst hs
    refine (gsource_w ⟨(gdT n).toArray⟩ 5000 100000 10 2000 w 5 0 0 [] he hO hT hP (by show (txG (gdT n)).size ≤ _; rw [txG_size, hgl]; omega) hs0 (by decide) (by decide) (by decide) hs1).mono ?_
    rintro e w' ⟨pa, pc, h1, h2, h3⟩
    exact ⟨pa, pc, h1, trivial, h3⟩
  have HSb : Hd (∀ (s : ByteArray) (W : World), Ext w W → s = ⟨(bdT d).toArray⟩ → Calls Tryz.prog 5 #[.string s] W fun e' w' => ∃ pa pc, e' = .returned (.tuple #[V.kpV pa 1 pc m, .int .i64 pl, .int .i64 0]) ∧ V.RepP w' (Up W w') pa [F] ∧ Ext W w') := fun s W x hs => by
    subst hs
    refine (gsource_w ⟨(bdT d).toArray⟩ 400 10000 100 5000 W 0 pl m [F] (he.on x) (hO.ext x) (hT.ext x) (hP.ext x) (by show (txG (bdT d)).size ≤ _; rw [txG_size, hbl]; omega) hbd (by decide) (by decide) (by decide) hsrc).mono ?_
    rintro e w' ⟨pa, pc, h1, h2, h3⟩
    exact ⟨pa, pc, h1, h2 rfl, h3⟩
  have HVt : Hd (∀ (W : World) (pa : Option Addr) (pc : Nat), V.RepP W (V.In W) pa [F] → Calls Tryz.prog 7 #[V.kpV pa 1 pc m, .int .i64 0] W fun e w' => e = .returned (.tuple #[.int .i64 ((d : Int) + 1), .int .i64 0]) ∧ Ext W w') := fun W pa pc hr => V.virtual_w [F] 0 pa pc m 5000 ((d : Int) + 1, 0) W hr (by simp) (kfB_of (gSrc_ok hsrc)) (by decide) hvt
  clear he hO hT hP hsrc hvt hbd hs0 hs1 hgl hbl
  go_enter Tryz.func4, Tryz.ntmps4
  go_wp2_with fail
  go_loopw [5, 6] (fun sv i wr => ∃ (j : Nat), i = .int .i64 j ∧ j ≤ n ∧ sv = .string (txG (gd1 j)) ∧ wr = w) (fun _ i _ => n - (intOf i).toNat)
  case atStart => exact ⟨0, rfl, by omega, rfl, rfl⟩
  case round =>
    obtain ⟨j, rfl, hj, rfl, hX⟩ := hrel
    obtain rfl := hX.symm
    have hl1 : (txG (gd1 j)).size ≤ 2000 := by rw [txG_size]; unfold gd1; rw [List.length_append, rp_len]; show 14 + j * 6 ≤ _; omega
    by_cases hlt : j < n
    · have HS1 : Hd (txG (gd1 j) ++ ⟨#[49, 61, 61, 49, 59, 32]⟩ = txG (gd1 (j + 1))) := by
        refine (txG_app (gd1 j) gdU).trans ?_
        unfold gd1
        rw [rp, List.append_assoc]
      generalize txG (gd1 j) = s1 at *
      go_wp2_with fail
      go_roundw
      case rel => exact ⟨j + 1, by go_num, by omega, by first | rw [unhide HS1] | (rw [← unhide HS1]; rfl), by first | rfl | trivial⟩
      case measure => simp [intOf]; omega
    · obtain rfl : j = n := by omega
      have HS1 : Hd (txG (gd1 j) ++ ⟨#[125]⟩ = ⟨(gdT j).toArray⟩) := txG_app (gd1 j) [125]
      have HC := hide (unhide HSa _ (unhide HS1))
      clear HSa HS1 hlt hj
      generalize txG (gd1 j) = s1 at *
      go_wp2_with (go_at_call 5; refine Calls.mono (unhide HC) ?_; rintro e w1 ⟨pa, pc, rfl, hr, hX⟩; have X1 := hide hX; clear hX hr)
      obtain ⟨W2, hW2⟩ : ∃ W2, W2 = w1.alloc (.cells #[.slice pa 0 pc, .int .i64 0] 24) := ⟨_, rfl⟩
      rw [← hW2]
      have X2 : Hd (Ext w W2) := by unfold Hd; rw [hW2]; exact (unhide X1).trans (Ext.alloc _ _)
      clear hW2 HC 
      go_loopw [10, 11] (fun sv i wr => ∃ (k : Nat), i = .int .i64 k ∧ k ≤ d ∧ sv = .string (txG (rp bdO k)) ∧ wr = W2) (fun _ i _ => d - (intOf i).toNat)
      case atStart => exact ⟨0, rfl, by omega, rfl, rfl⟩
      case round =>
        obtain ⟨k, rfl, hk, rfl, hX⟩ := hrel
        obtain rfl := hX.symm
        have hl2 : (txG (rp bdO k)).size ≤ 200 := by rw [txG_size, rp_len]; show k * 6 ≤ _; omega
        by_cases hlt : k < d
        · have HS1 : Hd (txG (rp bdO k) ++ ⟨#[49, 32, 43, 32, 40, 32]⟩ = txG (rp bdO (k + 1))) := txG_app (rp bdO k) bdO
          generalize txG (rp bdO k) = s2 at *
          go_wp2_with fail
          go_roundw
          case rel => exact ⟨k + 1, by go_num, by omega, by first | rw [unhide HS1] | (rw [← unhide HS1]; rfl), by first | rfl | trivial⟩
          case measure => simp [intOf]; omega
        · obtain rfl : k = d := by omega
          have HS1 : Hd (txG (rp bdO k) ++ ⟨#[49]⟩ = txG (bd2 k 0)) := by
            refine (txG_app (rp bdO k) [49]).trans ?_
            unfold bd2
            rw [show rp bdE 0 = [] from rfl, List.append_nil]
          generalize txG (rp bdO k) = s2 at *
          go_wp2_with fail
          rw [unhide HS1]
          clear HS1 hl2 hlt hk
          go_loopw [10, 12] (fun sv i wr => ∃ (z : Nat), i = .int .i64 z ∧ z ≤ k ∧ sv = .string (txG (bd2 k z)) ∧ wr = W2) (fun _ i _ => k - (intOf i).toNat)
          case atStart => exact ⟨0, rfl, by omega, rfl, rfl⟩
          case round =>
            obtain ⟨z, rfl, hz, rfl, hX⟩ := hrel
            obtain rfl := hX.symm
            have hl2 : (txG (bd2 k z)).size ≤ 300 := by rw [txG_size]; unfold bd2; rw [List.length_append, List.length_append, rp_len, rp_len]; show k * 6 + 1 + z * 2 ≤ _; omega
            by_cases hlt : z < k
            · have HS1 : Hd (txG (bd2 k z) ++ ⟨#[32, 41]⟩ = txG (bd2 k (z + 1))) := by
                refine (txG_app (bd2 k z) bdE).trans ?_
                unfold bd2
                rw [show rp bdE (z + 1) = rp bdE z ++ bdE from rfl, List.append_assoc (rp bdO k ++ [49])]
              generalize txG (bd2 k z) = s2 at *
              go_wp2_with fail
              go_roundw
              case rel => exact ⟨z + 1, by go_num, by omega, by first | rw [unhide HS1] | (rw [← unhide HS1]; rfl), by first | rfl | trivial⟩
              case measure => simp [intOf]; omega
            · obtain rfl : z = k := by omega
              have HS1 : Hd (⟨#[102, 110, 32, 109, 97, 105, 110, 32, 40, 32, 41, 32, 123, 32, 112, 114, 105, 110, 116, 32]⟩ ++ txG (bd2 z z) ++ ⟨#[32, 59, 32, 125]⟩ = (⟨(bdT z).toArray⟩ : ByteArray)) := by
                show txG bdP ++ txG (bd2 z z) ++ _ = _
                have e1 : txG bdP ++ txG (bd2 z z) = txG (bdP ++ bd2 z z) := txG_app bdP (bd2 z z)
                rw [e1]
                exact txG_app (bdP ++ bd2 z z) [32, 59, 32, 125]
              have HC := hide (unhide HSb _ W2 (unhide X2) (unhide HS1))
              have hz3 : (⟨#[102, 110, 32, 109, 97, 105, 110, 32, 40, 32, 41, 32, 123, 32, 112, 114, 105, 110, 116, 32]⟩ ++ txG (bd2 z z) : ByteArray).size ≤ 400 := by rw [ByteArray.size_append]; show 20 + _ ≤ _; omega
              clear HSb HS1 hlt hz
              generalize txG (bd2 z z) = s2 at *
              go_wp2_with (first
                | (go_at_call 5; refine Calls.mono (unhide HC) ?_; rintro e w3 ⟨pb, pd, rfl, hr, hX⟩; have X3 := hide ((unhide X2).trans hX); have RP : Hd (∀ ob, V.RepP (w3.alloc ob) (V.In (w3.alloc ob)) pb [F]) := (fun ob => hr.to (fun q hq => ⟨Nat.lt_of_lt_of_le hq.2 (Ext.alloc w3 ob).size, (Ext.alloc w3 ob).block q hq.2⟩)); clear hX hr)
                | (go_at_call 7; refine Calls.mono (unhide HVt _ pb pd (unhide RP _)) ?_; rintro e w4 ⟨rfl, hw⟩; have X4 := hide (((unhide X3).trans (Ext.alloc _ _)).trans hw); clear hw)
                | (go_at_call 6; refine Calls.mono (unhide HAw _ (unhide X4)) ?_; rintro e w5 ⟨rfl, hw⟩; have X5 := hide ((unhide X4).trans hw); clear hw))
              go_ret
              exact ⟨rfl, unhide X5⟩

theorem bounds_walk (a0 a1 : Int) (w : World) (he : Er w) (hO : Opx w) (hT : Tbl w) (hP : Shp w) :
    Calls Tryz.prog 4 #[.int .i64 a0, .int .i64 a1] w fun e w' => e = .returned (.bool true) ∧ Ext w w' := by
  obtain ⟨n, hn, hn1⟩ := kmaskG a0 300 (by decide)
  obtain ⟨d, hd, hd1⟩ := kmaskG a1 24 (by decide)
  by_cases h : n ≤ 249
  · exact bounds_lo a0 a1 n d w hn hd hn1 h hd1 he hO hT hP
  · exact bounds_hi a0 a1 n d w hn hd hn1 (by omega) hd1 he hO hT hP

end Go.Proofs.YtlgdjeiendmniaaGreatDoor

namespace Go.Proofs.YtlgdjeiendmniaaGreatDoor
open Go.RowKit Go.Maps

def oprD (o : Opr) : DataW Unit := .agg [.lit (.string o.s.data.toList), .lit (.int .i64 o.lv), .lit (.int .i64 o.k), .lit (.int .i64 o.o)]

theorem bytes_of_list {s t : ByteArray} (h : s.data.toList = t.data.toList) : s = t := by
  cases s; cases t
  simpa using h

theorem one_of_take {cs : List Value} {k : Nat} {v : Value} (h : (cs.drop k).take 1 = [v]) : cs[k]? = some v := by
  have := congrArg (·[0]?) h
  simpa [List.getElem?_take, List.getElem?_drop] using this

theorem opr_of_trod {W : World} {fuel : Nat} {cs : List Value} {q : List MemPlace} (o : Opr)
    (h : DataW.trod (fun _ => ()) Tryz.prog W 0 (fun _ => true) false fuel 198 cs = some (oprD o, q)) : ∀ r < 4, cs[r]? = (oprC o)[r]? := by
  obtain ⟨xs, n, rfl, hx, hl, hxl, hall⟩ := DataW.trod_struct Tryz.underlying198 h
  have hd : xs.map (·.1) = [.lit (.string o.s.data.toList), .lit (.int .i64 o.lv), .lit (.int .i64 o.k), .lit (.int .i64 o.o)] := by
    have := congrArg Prod.fst hx
    simpa [oprD] using this.symm
  obtain ⟨x0, x1, x2, x3, rfl⟩ : ∃ x0 x1 x2 x3, xs = [x0, x1, x2, x3] := by
    match xs, hxl with
    | [x0, x1, x2, x3], _ => exact ⟨x0, x1, x2, x3, rfl⟩
  simp only [List.map_cons, List.map_nil, List.cons.injEq, and_true] at hd
  obtain ⟨d0, d1, d2, d3⟩ := hd
  have c3 : Tryz.prog.cellsOf 9 = 1 := by kernel_rfl
  have c1 : Tryz.prog.cellsOf 3 = 1 := by kernel_rfl
  have h0 : DataW.trod (fun _ => ()) Tryz.prog W 0 (fun _ => true) false n 9 ((cs.drop 0).take (Tryz.prog.cellsOf 9)) = some x0 := hall 0 _ rfl
  have h1 : DataW.trod (fun _ => ()) Tryz.prog W 0 (fun _ => true) false n 3 ((cs.drop 1).take (Tryz.prog.cellsOf 3)) = some x1 := hall 1 _ rfl
  have h2 : DataW.trod (fun _ => ()) Tryz.prog W 0 (fun _ => true) false n 3 ((cs.drop 2).take (Tryz.prog.cellsOf 3)) = some x2 := hall 2 _ rfl
  have h3 : DataW.trod (fun _ => ()) Tryz.prog W 0 (fun _ => true) false n 3 ((cs.drop 3).take (Tryz.prog.cellsOf 3)) = some x3 := hall 3 _ rfl
  obtain ⟨s, e0, y0, _⟩ := DataW.trod_string Tryz.underlying9 h0
  obtain ⟨a, e1, y1, _⟩ := DataW.trod_int Tryz.underlying3 h1
  obtain ⟨b, e2, y2, _⟩ := DataW.trod_int Tryz.underlying3 h2
  obtain ⟨c, e3, y3, _⟩ := DataW.trod_int Tryz.underlying3 h3
  subst y0 y1 y2 y3
  simp only [DataW.lit.injEq, Lit.string.injEq, Lit.int.injEq, true_and] at d0 d1 d2 d3
  obtain rfl := bytes_of_list d0
  subst d1 d2 d3
  rw [c3] at e0
  rw [c1] at e1 e2 e3
  have g0 := one_of_take e0
  have g1 := one_of_take e1
  have g2 := one_of_take e2
  have g3 := one_of_take e3
  intro r hr
  match r, hr with
  | 0, _ => exact g0
  | 1, _ => exact g1
  | 2, _ => exact g2
  | 3, _ => exact g3

theorem opTab_at (i r : Nat) (o : Opr) (h : oprs[i]? = some o) (hr : r < 4) : opTab[i * 4 + r]? = (oprC o)[r]? := by
  match i, h with
  | 0, h => obtain rfl := Option.some.inj h; match r, hr with | 0, _ => rfl | 1, _ => rfl | 2, _ => rfl | 3, _ => rfl
  | 1, h => obtain rfl := Option.some.inj h; match r, hr with | 0, _ => rfl | 1, _ => rfl | 2, _ => rfl | 3, _ => rfl
  | 2, h => obtain rfl := Option.some.inj h; match r, hr with | 0, _ => rfl | 1, _ => rfl | 2, _ => rfl | 3, _ => rfl
  | 3, h => obtain rfl := Option.some.inj h; match r, hr with | 0, _ => rfl | 1, _ => rfl | 2, _ => rfl | 3, _ => rfl
  | 4, h => obtain rfl := Option.some.inj h; match r, hr with | 0, _ => rfl | 1, _ => rfl | 2, _ => rfl | 3, _ => rfl
  | 5, h => obtain rfl := Option.some.inj h; match r, hr with | 0, _ => rfl | 1, _ => rfl | 2, _ => rfl | 3, _ => rfl
  | 6, h => obtain rfl := Option.some.inj h; match r, hr with | 0, _ => rfl | 1, _ => rfl | 2, _ => rfl | 3, _ => rfl
  | 7, h => obtain rfl := Option.some.inj h; match r, hr with | 0, _ => rfl | 1, _ => rfl | 2, _ => rfl | 3, _ => rfl
  | 8, h => obtain rfl := Option.some.inj h; match r, hr with | 0, _ => rfl | 1, _ => rfl | 2, _ => rfl | 3, _ => rfl
  | 9, h => obtain rfl := Option.some.inj h; match r, hr with | 0, _ => rfl | 1, _ => rfl | 2, _ => rfl | 3, _ => rfl
  | 10, h => obtain rfl := Option.some.inj h; match r, hr with | 0, _ => rfl | 1, _ => rfl | 2, _ => rfl | 3, _ => rfl
  | 11, h => obtain rfl := Option.some.inj h; match r, hr with | 0, _ => rfl | 1, _ => rfl | 2, _ => rfl | 3, _ => rfl
  | 12, h => obtain rfl := Option.some.inj h; match r, hr with | 0, _ => rfl | 1, _ => rfl | 2, _ => rfl | 3, _ => rfl
  | 13, h => obtain rfl := Option.some.inj h; match r, hr with | 0, _ => rfl | 1, _ => rfl | 2, _ => rfl | 3, _ => rfl
  | 14, h => obtain rfl := Option.some.inj h; match r, hr with | 0, _ => rfl | 1, _ => rfl | 2, _ => rfl | 3, _ => rfl
  | 15, h => obtain rfl := Option.some.inj h; match r, hr with | 0, _ => rfl | 1, _ => rfl | 2, _ => rfl | 3, _ => rfl
  | i + 16, h => simp [oprs] at h

theorem opx_of_reads {W : World} (h : Lib.VarReads Tryz.prog W "ratline/parse.operators" (.agg (oprs.map oprD))) : Opx W := by
  obtain ⟨g, t, cs, fuel, p, hg, hty, hvar, hd⟩ := h
  obtain rfl := Option.some.inj ((show Tryz.prog.globalNamed "ratline/parse.operators" = some 6 by kernel_rfl).symm.trans hg)
  obtain rfl := Option.some.inj ((show (Tryz.prog.globals[6]?).map (·.type) = some 225 by kernel_rfl).symm.trans hty)
  have c4 : Tryz.prog.cellsOf 198 = 4 := by kernel_rfl
  intro j v hv
  have hj : j < 64 := by
    obtain ⟨hl, _⟩ := List.getElem?_eq_some_iff.1 hv
    exact hl
  obtain ⟨fuel', d, q, hdi, he⟩ := Lib.array_elem Tryz.underlying225 hd (j / 4) (by omega)
  rw [List.getElem?_map] at hdi
  obtain ⟨o, ho, rfl⟩ := Option.map_eq_some_iff.1 hdi
  have h1 := opr_of_trod o he (j % 4) (by omega)
  rw [c4, List.getElem?_take_of_lt (by omega), List.getElem?_drop] at h1
  have h2 := opTab_at (j / 4) (j % 4) o ho (by omega)
  have hjj : j / 4 * 4 + j % 4 = j := by omega
  rw [hjj] at h1 h2
  rw [Nat.zero_add, World.var?_cell hg hvar j, ← Array.getElem?_toList, h1, ← h2, hv]

def nmS : List ByteArray := [⟨#[]⟩, ⟨#[43]⟩, ⟨#[45]⟩, ⟨#[42]⟩, ⟨#[47]⟩, ⟨#[37]⟩, ⟨#[61, 61]⟩, ⟨#[33, 61]⟩, ⟨#[60]⟩, ⟨#[60, 61]⟩, ⟨#[62]⟩, ⟨#[62, 61]⟩, ⟨#[91, 93]⟩, ⟨#[112, 117, 115, 104]⟩, ⟨#[99, 120]⟩, ⟨#[45]⟩, ⟨#[33]⟩, ⟨#[108, 101, 110]⟩, ⟨#[114, 101]⟩, ⟨#[105, 109]⟩, ⟨#[99, 111, 110, 106]⟩]
def nmD : DataW Unit := .agg (nmS.map fun s => .lit (.string s.data.toList))

theorem nm_of_reads {W : World} (h : Lib.VarReads Tryz.prog W "ratline/ops.names" nmD) (j : Nat) (s : ByteArray) (hs : nmS[j]? = some s) : W.cell? ⟨2, j, none⟩ = some (.string s) := by
  obtain ⟨g, t, cs, fuel, p, hg, hty, hvar, hd⟩ := h
  obtain rfl := Option.some.inj ((show Tryz.prog.globalNamed "ratline/ops.names" = some 2 by kernel_rfl).symm.trans hg)
  obtain rfl := Option.some.inj ((show (Tryz.prog.globals[2]?).map (·.type) = some 170 by kernel_rfl).symm.trans hty)
  have c1 : Tryz.prog.cellsOf 9 = 1 := by kernel_rfl
  obtain ⟨hl, _⟩ := List.getElem?_eq_some_iff.1 hs
  have hl' : j < 21 := hl
  obtain ⟨fuel', d, q, hdi, he⟩ := Lib.array_elem Tryz.underlying170 hd j hl'
  rw [List.getElem?_map, hs] at hdi
  obtain rfl := Option.some.inj hdi
  obtain ⟨s', e0, y0, _⟩ := DataW.trod_string Tryz.underlying9 he
  simp only [Prod.mk.injEq, DataW.lit.injEq, Lit.string.injEq] at y0
  obtain rfl := bytes_of_list y0.1
  rw [c1, Nat.mul_one] at e0
  rw [World.var?_cell hg hvar j, ← Array.getElem?_toList]
  exact one_of_take e0

theorem bi_of_reads {W : World} (h : Lib.VarReads Tryz.prog W "ratline/scope.calledByName" (Lib.tabData .i64 [13, 14, 17, 18, 19, 20])) : W.rangeAt 1 0 biT := by
  obtain ⟨g, t, cs, fuel, p, hg, hty, hvar, hd⟩ := h
  obtain rfl := Option.some.inj ((show Tryz.prog.globalNamed "ratline/scope.calledByName" = some 1 by kernel_rfl).symm.trans hg)
  obtain rfl := Option.some.inj ((show (Tryz.prog.globals[1]?).map (·.type) = some 145 by kernel_rfl).symm.trans hty)
  have hcs := Lib.cells_of_tab Tryz.underlying145 Tryz.underlying3 (by kernel_rfl) (by kernel_rfl) hd
  intro j v hv
  rw [Nat.zero_add, World.var?_cell hg hvar j, ← Array.getElem?_toList, hcs]
  exact hv

theorem er_of_reads {W : World} (h : Lib.VarReads Tryz.prog W "strconv.ErrRange" Rows.laid_strconv_ErrRange) : Er W := by
  obtain ⟨g, t, cs, fuel, p, hg, ht, hv, hd⟩ := h
  obtain rfl := Option.some.inj ((show Tryz.prog.globalNamed "strconv.ErrRange" = some 5 by kernel_rfl).symm.trans hg)
  obtain rfl := Option.some.inj ((show (Tryz.prog.globals[5]?).map (·.type) = some 181 by kernel_rfl).symm.trans ht)
  obtain ⟨fuel', u, v, hcs, _, _⟩ := iface_of_trod Tryz.underlying181 hd
  have h0 := World.var?_cell hg hv 0
  refine ⟨u, v, h0.trans ?_⟩
  obtain rfl : cs = #[.iface u v] := by cases cs; simp_all
  rfl

theorem tbl_of_reads {W : World} (h : Lib.VarReads Tryz.prog W "ratline/ops.names" nmD) (h2 : Lib.VarReads Tryz.prog W "ratline/scope.calledByName" (Lib.tabData .i64 [13, 14, 17, 18, 19, 20])) : Tbl W := by
  refine ⟨bi_of_reads h2, fun j x hx => nm_of_reads h _ _ ?_⟩
  match j, hx with
  | 0, h => obtain rfl := Option.some.inj h; rfl
  | 1, h => obtain rfl := Option.some.inj h; rfl
  | 2, h => obtain rfl := Option.some.inj h; rfl
  | 3, h => obtain rfl := Option.some.inj h; rfl
  | 4, h => obtain rfl := Option.some.inj h; rfl
  | 5, h => obtain rfl := Option.some.inj h; rfl
  | j + 6, h => simp [biL] at h

end Go.Proofs.YtlgdjeiendmniaaGreatDoor

namespace Go.Proofs.YtlgdjeiendmniaaGreatDoor
open Go.RowKit Go.Maps

def shpD (t : Int × Int × Int) : DataW Unit := .agg [.lit (.int .i64 t.1), .lit (.int .i64 t.2.1), .lit (.int .i64 t.2.2)]

theorem shp_of_trod {W : World} {fuel : Nat} {cs : List Value} {q : List MemPlace} (t : Int × Int × Int)
    (h : DataW.trod (fun _ => ()) Tryz.prog W 0 (fun _ => true) false fuel 119 cs = some (shpD t, q)) : ∀ r < 3, cs[r]? = [Value.int .i64 t.1, .int .i64 t.2.1, .int .i64 t.2.2][r]? := by
  obtain ⟨xs, n, rfl, hx, hl, hxl, hall⟩ := DataW.trod_struct Tryz.underlying119 h
  have hd : xs.map (·.1) = [.lit (.int .i64 t.1), .lit (.int .i64 t.2.1), .lit (.int .i64 t.2.2)] := by
    have := congrArg Prod.fst hx
    simpa [shpD] using this.symm
  obtain ⟨x1, x2, x3, rfl⟩ : ∃ x1 x2 x3, xs = [x1, x2, x3] := by
    match xs, hxl with
    | [x1, x2, x3], _ => exact ⟨x1, x2, x3, rfl⟩
  simp only [List.map_cons, List.map_nil, List.cons.injEq, and_true] at hd
  obtain ⟨d1, d2, d3⟩ := hd
  have c1 : Tryz.prog.cellsOf 3 = 1 := by kernel_rfl
  have h1 : DataW.trod (fun _ => ()) Tryz.prog W 0 (fun _ => true) false n 3 ((cs.drop 0).take (Tryz.prog.cellsOf 3)) = some x1 := hall 0 _ rfl
  have h2 : DataW.trod (fun _ => ()) Tryz.prog W 0 (fun _ => true) false n 3 ((cs.drop 1).take (Tryz.prog.cellsOf 3)) = some x2 := hall 1 _ rfl
  have h3 : DataW.trod (fun _ => ()) Tryz.prog W 0 (fun _ => true) false n 3 ((cs.drop 2).take (Tryz.prog.cellsOf 3)) = some x3 := hall 2 _ rfl
  obtain ⟨a, e1, y1, _⟩ := DataW.trod_int Tryz.underlying3 h1
  obtain ⟨b, e2, y2, _⟩ := DataW.trod_int Tryz.underlying3 h2
  obtain ⟨c, e3, y3, _⟩ := DataW.trod_int Tryz.underlying3 h3
  subst y1 y2 y3
  simp only [DataW.lit.injEq, Lit.int.injEq, true_and] at d1 d2 d3
  subst d1 d2 d3
  rw [c1] at e1 e2 e3
  have g1 := one_of_take e1
  have g2 := one_of_take e2
  have g3 := one_of_take e3
  intro r hr
  match r, hr with
  | 0, _ => exact g1
  | 1, _ => exact g2
  | 2, _ => exact g3

theorem shp_of_reads {W : World} (h : Lib.VarReads Tryz.prog W "ratline/gen.shapes" (.agg (shpL.map shpD))) : Shp W := by
  obtain ⟨g, t, cs, fuel, p, hg, hty, hvar, hd⟩ := h
  obtain rfl := Option.some.inj ((show Tryz.prog.globalNamed "ratline/gen.shapes" = some 0 by kernel_rfl).symm.trans hg)
  obtain rfl := Option.some.inj ((show (Tryz.prog.globals[0]?).map (·.type) = some 120 by kernel_rfl).symm.trans hty)
  have c3 : Tryz.prog.cellsOf 119 = 3 := by kernel_rfl
  intro j v hv
  have hj : j < 66 := by
    obtain ⟨hl, _⟩ := List.getElem?_eq_some_iff.1 hv
    exact hl
  obtain ⟨fuel', d, q, hdi, he⟩ := Lib.array_elem Tryz.underlying120 hd (j / 3) (by omega)
  rw [List.getElem?_map] at hdi
  obtain ⟨o, ho, rfl⟩ := Option.map_eq_some_iff.1 hdi
  have h1 := shp_of_trod o he (j % 3) (by omega)
  rw [c3, List.getElem?_take_of_lt (by omega), List.getElem?_drop] at h1
  obtain ⟨k0, k1, k2⟩ := flat3_at shpL (j / 3) o ho
  have hjj : j / 3 * 3 + j % 3 = j := by omega
  rw [hjj] at h1
  have h2 : shpTab[j]? = [Value.int .i64 o.1, .int .i64 o.2.1, .int .i64 o.2.2][j % 3]? := by
    rcases (show j % 3 = 0 ∨ j % 3 = 1 ∨ j % 3 = 2 by omega) with h | h | h
    · rw [h] at hjj ⊢; rw [← hjj]; exact k0
    · rw [h] at hjj ⊢; rw [← hjj]; exact k1
    · rw [h] at hjj ⊢; rw [← hjj]; exact k2
  rw [Nat.zero_add, World.var?_cell hg hvar j, ← Array.getElem?_toList, h1, ← h2, hv]

end Go.Proofs.YtlgdjeiendmniaaGreatDoor
