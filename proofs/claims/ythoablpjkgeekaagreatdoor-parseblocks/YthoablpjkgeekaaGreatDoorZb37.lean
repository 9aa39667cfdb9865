/- The walk of the law ParseBlocks. -/
import Derived.Test.YthoablpjkgeekaaGreatDoorZb24
import Derived.Test.YthoablpjkgeekaaGreatDoorZb27
import Derived.Test.YthoablpjkgeekaaGreatDoorZb29
import Derived.Test.YthoablpjkgeekaaGreatDoorZb30
import Derived.Test.YthoablpjkgeekaaGreatDoorZb31
import Derived.Test.YthoablpjkgeekaaGreatDoorZb32
import Derived.Test.YthoablpjkgeekaaGreatDoorZb33
import Derived.Test.YthoablpjkgeekaaGreatDoorZb34
import Derived.Test.YthoablpjkgeekaaGreatDoorZb35
import Derived.Test.YthoablpjkgeekaaGreatDoorZb36
set_option linter.unusedSimpArgs false
set_option linter.unusedVariables false
set_option maxRecDepth 10000

namespace Go.Proofs.YthoablpjkgeekaaGreatDoor
open Go.RowKit

theorem all_at {p : Nat → Bool} {lo k : Nat} (h : ((List.range k).all fun i => p (i + lo)) = true) {n : Nat} (h1 : lo ≤ n) (h2 : n < lo + k) : p n = true := by
  rw [List.all_eq_true] at h
  have := h (n - lo) (List.mem_range.2 (by omega))
  rw [show n - lo + lo = n by omega] at this
  exact this
theorem okU (n : Nat) (h : n < 60) : rdOk (bkU n) (nBl [trU n]) = true := by
  by_cases h1 : n < 20
  · exact all_at (p := bkOkU) bk_0 (by omega) (by omega)
  by_cases h2 : n < 30
  · exact all_at (p := bkOkU) bk_1 (by omega) (by omega)
  by_cases h3 : n < 40
  · exact all_at (p := bkOkU) bk_2 (by omega) (by omega)
  by_cases h4 : n < 50
  · exact all_at (p := bkOkU) bk_5 (by omega) (by omega)
  · exact all_at (p := bkOkU) bk_6 (by omega) (by omega)
theorem bdU_all : ((List.range 60).all fun i => bdN 200 (nBl [trU (i + 0)])) = true := by kernel_rfl
theorem bdU (n : Nat) (h : n < 60) : bdN 200 (nBl [trU n]) = true := all_at (p := fun n => bdN 200 (nBl [trU n])) bdU_all (by omega) (by omega)
theorem okV (n : Nat) (h : n < 24) : bkOkV n = true := all_at bk_3 (by omega) (by omega)
theorem okW (n : Nat) (h1 : 24 ≤ n) (h2 : n < 60) : bkOkW n = true := all_at bk_4 (by omega) (by omega)
theorem prOk_to {b : PN} {t : List UInt8} (h : prOk b t = true) : bdN 200 b = true ∧ ∃ c, wFs (wE 200) 200 [⟨⟨#[109, 97, 105, 110]⟩, [], b⟩] (([], false), 0) = some ((t, false), c) := by
  unfold prOk at h
  rw [Bool.and_eq_true] at h
  obtain ⟨h1, h2⟩ := h
  refine ⟨h1, ?_⟩
  split at h2
  · rename_i l c e
    rw [beq_iff_eq] at h2
    exact ⟨c, by rw [e, h2]⟩
  · cases h2

abbrev mnP (b : PN) : PFn := ⟨⟨#[109, 97, 105, 110]⟩, [], b⟩
theorem rdOk_to {l : List UInt8} {b : PN} (h : rdOk l b = true) : (begP ⟨l.toArray⟩).ts.length < 400 ∧ ∃ st, rdP ⟨l.toArray⟩ 400 = ([mnP b], st) ∧ st.e = 0 := by
  unfold rdOk at h
  simp only [Bool.and_eq_true, decide_eq_true_eq] at h
  obtain ⟨h1, h2, h3⟩ := h
  rw [begP_L, rdP_L]
  refine ⟨h1, (rdL l 400).2, ?_, h3⟩
  rw [← isMain_to h2]
theorem too_mn (b : PN) : tooP [mnP b] = false := rfl

theorem prog_mn {l : List UInt8} {b : PN} (h : rdOk l b = true) (hl : l.length ≤ 4000) (W : World) (he : Er W) (hO : Opx W) :
    Calls Tryz.prog 6 #[.string ⟨l.toArray⟩] W fun e w' => ∃ ua uc, e = .returned (.tuple #[.slice ua 1 uc, .int .i64 0, .int .i64 0]) ∧ RepFL w' (InW w') [mnP b] ua ∧ Ext W w' := by
  obtain ⟨hf, st, hx, hst⟩ := rdOk_to h
  refine Calls.mono (program_any ⟨l.toArray⟩ 400 W he hO (by rw [size_mk]; omega) hf (by omega)) ?_
  rw [hx]
  rintro e w' ⟨hw, h9 | ⟨_, h9, _⟩ | ⟨_, _, ua, uc, rfl, _, hr⟩⟩
  · exact absurd hst h9.1
  · cases h9
  · exact ⟨ua, uc, rfl, RepFL.to (fun b hb => ⟨hb.2, rfl⟩) hr, hw⟩
theorem prog_bad {l : List UInt8} (h : dpBad l = true) (hl : l.length ≤ 4000) (W : World) (he : Er W) (hO : Opx W) :
    Calls Tryz.prog 6 #[.string ⟨l.toArray⟩] W fun e w' => ∃ p, e = .returned (.tuple #[.slice none 0 0, .int .i64 p, .int .i64 21]) ∧ Ext W w' := by
  unfold dpBad at h
  simp only [Bool.and_eq_true, decide_eq_true_eq] at h
  obtain ⟨h1, h2⟩ := h
  rw [← begP_L] at h1
  rw [← rdP_L] at h2
  refine Calls.mono (program_any ⟨l.toArray⟩ 400 W he hO (by rw [size_mk]; omega) h1 (by omega)) ?_
  rintro e w' ⟨hw, ⟨_, rfl⟩ | ⟨h9, _⟩ | ⟨h9, _⟩⟩
  · rw [h2]; exact ⟨_, rfl, hw⟩
  · rw [h2] at h9; cases h9
  · rw [h2] at h9; cases h9
theorem print_mn {t : List UInt8} {b : PN} (h : rdOk t b = true) (hl : t.length ≤ 4000) (hb : bdN 200 b = true) (hp : ∃ c, wFs (wE 200) 200 [mnP b] (([], false), 0) = some ((t, false), c)) (a : Option Addr) (cap : Nat) (W : World) (he : Er W) (hO : Opx W) (hr : RepFL W (InW W) [mnP b] a) :
    Calls Tryz.prog 13 #[.slice a 1 cap] W fun e w' => e = .returned (.tuple #[.string ⟨t.toArray⟩, .bool true]) ∧ Ext W w' := by
  obtain ⟨hf, st, hx, hst⟩ := rdOk_to h
  obtain ⟨c, hp⟩ := hp
  exact print_w [mnP b] 200 400 200 t c st a cap W he hO hr (by simp) hp hx hst (too_mn b) (by simp [bdF, hb]) (by omega) hf (by omega)
theorem same_mn {b : PN} (hb : bdN 200 b = true) (a a2 : Option Addr) (ca cb : Nat) (W : World) (h1 : RepFL W (InW W) [mnP b] a) (h2 : RepFL W (InW W) [mnP b] a2) :
    Calls Tryz.prog 8 #[.slice a 1 ca, .slice a2 1 cb] W fun e w' => e = .returned (.bool true) ∧ Ext W w' :=
  rsameF_w 200 [mnP b] (by simp [bdF, hb]) a a2 ca cb W h1 h2 (by simp)

def txB (l : List UInt8) : ByteArray := ⟨l.toArray⟩
theorem txB_app (l m : List UInt8) : txB l ++ txB m = txB (l ++ m) := by
  apply ByteArray.ext
  rw [ByteArray.data_append]
  apply Array.ext'
  simp [txB]
theorem txB_size (l : List UInt8) : (txB l).size = l.length := by simp [txB, ByteArray.size]

theorem kmaskB (a : Int) (k : Nat) (hk : 0 < k) : ∃ n : Nat, (bits .and .i64 a 65535).tmod (k : Int) = n ∧ n < k := by
  have h : ∃ n : Nat, bits .and .i64 a 65535 = n ∧ n ≤ 65535 := by
    refine ⟨(BitVec.ofInt 64 a &&& BitVec.ofInt 64 65535).toNat, ?_, ?_⟩
    · have hl : (BitVec.ofInt 64 a &&& BitVec.ofInt 64 65535).toNat ≤ 65535 := by
        rw [BitVec.toNat_and]; exact Nat.and_le_right
      show IntKind.wrap .i64 ((BitVec.ofInt 64 a &&& BitVec.ofInt 64 65535).toNat : Int) = _
      generalize (BitVec.ofInt 64 a &&& BitVec.ofInt 64 65535).toNat = n at hl
      have e : IntKind.wrap .i64 (n : Int) = if (true && decide ((n : Int) % (18446744073709551616 : Int) ≥ (9223372036854775808 : Int))) = true then (n : Int) % 18446744073709551616 - 18446744073709551616 else (n : Int) % 18446744073709551616 := rfl
      rw [e]
      have : decide ((n : Int) % (18446744073709551616 : Int) ≥ (9223372036854775808 : Int)) = false := by
        rw [decide_eq_false_iff_not]; omega
      rw [this]
      simp only [Bool.and_false, Bool.false_eq_true, if_false]
      omega
    · rw [BitVec.toNat_and]; exact Nat.and_le_right
  obtain ⟨n, hn, _⟩ := h
  refine ⟨n % k, ?_, Nat.mod_lt _ hk⟩
  rw [hn]
  exact (Int.ofNat_tmod n k).symm

set_option maxHeartbeats 1000000 in
theorem blocks_chain (a0 : Int) (w : World) (N : Nat) (hn : (bits .and .i64 a0 65535).tmod 60 = N) (hN : N < 60) (he : Er w) (hO : Opx w) :
    Calls Tryz.prog 5 #[.int .i64 a0, .bool true] w fun e w' => e = .returned (.bool true) ∧ Ext w w' := by
  have hlU : (bkU N).length ≤ 4000 := by
    unfold bkU
    simp only [List.length_append, rp_len]
    show 14 + (N * 14 + 8) + 0 + 2 ≤ _
    omega
  have HAw := hide (fun (W : World) (x : Ext w W) => awake5_w W (he.on x) (hO.ext x))
  have HPr := hide (fun (W : World) (x : Ext w W) => prog_mn (okU N hN) hlU W (he.on x) (hO.ext x))
  have HPn := hide (fun (a : Option Addr) (cap : Nat) (W : World) (x : Ext w W) (hr : RepFL W (InW W) [mnP (nBl [trU N])] a) => print_mn (okU N hN) hlU (bdU N hN) (prU N hN) a cap W (he.on x) (hO.ext x) hr)
  have HSm := hide (fun (a a2 : Option Addr) (ca cb : Nat) (W : World) (h1 : RepFL W (InW W) [mnP (nBl [trU N])] a) (h2 : RepFL W (InW W) [mnP (nBl [trU N])] a2) => same_mn (bdU N hN) a a2 ca cb W h1 h2)
  clear he hO
  go_enter Tryz.func5, Tryz.ntmps5
  go_wp2_with fail
  go_loopw [5, 6, 7] (fun t5 t6 t7 wr => ∃ (j : Nat), t7 = .int .i64 j ∧ j ≤ N ∧ t5 = .string (txB (rp bkC j)) ∧ t6 = .string ⟨#[]⟩ ∧ wr = w) (fun _ _ t _ => N - (intOf t).toNat)
  case atStart => exact ⟨0, rfl, by omega, rfl, rfl, rfl⟩
  case round =>
    obtain ⟨j, rfl, hj, rfl, rfl, hX⟩ := hrel
    obtain rfl := hX.symm
    have hl1 : (txB (rp bkC j)).size ≤ 840 := by rw [txB_size, rp_len]; show j * 14 ≤ _; omega
    by_cases hlt : j < N
    · have HS1 : Hd (txB (rp bkC j) ++ ⟨#[105, 102, 32, 49, 32, 123, 32, 125, 32, 101, 108, 115, 101, 32]⟩ = txB (rp bkC (j + 1))) := txB_app (rp bkC j) bkC
      generalize txB (rp bkC j) = s1 at *
      go_wp2_with fail
      go_roundw
      case rel => exact ⟨j + 1, by go_num, by omega, by first | rw [unhide HS1] | (rw [← unhide HS1]; rfl), rfl, by first | rfl | trivial⟩
      case measure => simp [intOf]; omega
    · obtain rfl : j = N := by omega
      have HT : Hd (⟨#[102, 110, 32, 109, 97, 105, 110, 32, 40, 32, 41, 32, 123, 32]⟩ ++ (txB (rp bkC j) ++ ⟨#[105, 102, 32, 50, 32, 123, 32, 125]⟩) ++ ⟨#[]⟩ ++ ⟨#[32, 125]⟩ = (⟨(bkU j).toArray⟩ : ByteArray)) := by
        have e1 := txB_app (rp bkC j) bkD
        have e2 := txB_app bkA (rp bkC j ++ bkD)
        have e3 := txB_app (bkA ++ (rp bkC j ++ bkD)) []
        have e4 := txB_app (bkA ++ (rp bkC j ++ bkD) ++ []) bkE
        show txB bkA ++ (txB (rp bkC j) ++ txB bkD) ++ txB [] ++ txB bkE = _
        rw [e1, e2, e3, e4]
        rfl
      have HC : Hd (∀ W, Ext w W → Calls Tryz.prog 6 #[.string (⟨#[102, 110, 32, 109, 97, 105, 110, 32, 40, 32, 41, 32, 123, 32]⟩ ++ (txB (rp bkC j) ++ ⟨#[105, 102, 32, 50, 32, 123, 32, 125]⟩) ++ ⟨#[]⟩ ++ ⟨#[32, 125]⟩)] W fun e w' => ∃ ua uc, e = .returned (.tuple #[.slice ua 1 uc, .int .i64 0, .int .i64 0]) ∧ RepFL w' (InW w') [mnP (nBl [trU j])] ua ∧ Ext W w') := fun W x => by
        rw [unhide HT]; exact unhide HPr W x
      generalize txB (rp bkC j) = s1 at *
      go_wp2_with (first
        | (go_at_call 6; refine Calls.mono (unhide HC _ (Ext.refl _)) ?_; rintro e w1 ⟨ua, uc, rfl, hr, hw⟩; have X1 := hide hw; have R1 := hide hr; clear hw hr HC)
        | (have T9 := unhide X1; go_at_call 13; refine Calls.mono (unhide HPn _ _ _ T9 (unhide R1)) ?_; rintro e w2 ⟨rfl, hw⟩; have X2 := hide (T9.trans hw); have R2 := hide ((unhide R1).inw hw); clear hw T9 R1)
        | (have T9 := unhide X2; go_at_call 6; refine Calls.mono (unhide HPr _ T9) ?_; rintro e w3 ⟨ub, ud, rfl, hr, hw⟩; have X3 := hide (T9.trans hw); have R3 := hide ((unhide R2).inw hw); have S3 := hide hr; clear hw hr T9)
        | (have T9 := unhide X3; go_at_call 8; refine Calls.mono (unhide HSm _ _ _ _ _ (unhide S3) (unhide R3)) ?_; rintro e w4 ⟨rfl, hw⟩; have X4 := hide (T9.trans hw); clear hw T9)
        | (have T9 := unhide X4; go_at_call 9; refine Calls.mono (unhide HAw _ T9) ?_; rintro e w5 ⟨rfl, hw⟩; have X5 := hide (T9.trans hw); clear hw T9))
      go_ret
      exact ⟨rfl, unhide X5⟩

set_option maxHeartbeats 1000000 in
theorem blocks_in (a0 : Int) (w : World) (N : Nat) (hn : (bits .and .i64 a0 65535).tmod 60 = N) (hN : N < 24) (he : Er w) (hO : Opx w) :
    Calls Tryz.prog 5 #[.int .i64 a0, .bool false] w fun e w' => e = .returned (.bool true) ∧ Ext w w' := by
  have hlV : (bkV N).length ≤ 4000 := by
    unfold bkV
    simp only [List.length_append, rp_len]
    show 14 + N * 7 + N * 2 + 2 ≤ _
    omega
  have hlX : (bkX N).length ≤ 4000 := by
    unfold bkX
    simp only [List.length_append, rp_len]
    show 13 + N * 7 + N * 2 + 2 ≤ _
    omega
  have hok := okV N hN
  unfold bkOkV at hok
  rw [Bool.and_eq_true, Bool.and_eq_true] at hok
  obtain ⟨hV, hX0, hP⟩ := hok
  obtain ⟨hb, hp⟩ := prOk_to hP
  have HAw := hide (fun (W : World) (x : Ext w W) => awake5_w W (he.on x) (hO.ext x))
  have HPr := hide (fun (W : World) (x : Ext w W) => prog_mn hX0 hlX W (he.on x) (hO.ext x))
  have HPv := hide (fun (W : World) (x : Ext w W) => prog_mn hV hlV W (he.on x) (hO.ext x))
  have HPn := hide (fun (a : Option Addr) (cap : Nat) (W : World) (x : Ext w W) (hr : RepFL W (InW W) [mnP (trV N)] a) => print_mn hX0 hlX hb hp a cap W (he.on x) (hO.ext x) hr)
  have HSm := hide (fun (a a2 : Option Addr) (ca cb : Nat) (W : World) (h1 : RepFL W (InW W) [mnP (trV N)] a) (h2 : RepFL W (InW W) [mnP (trV N)] a2) => same_mn hb a a2 ca cb W h1 h2)
  clear he hO hV hX0 hP hb hp hlV hlX
  go_enter Tryz.func5, Tryz.ntmps5
  go_wp2_with fail
  go_loopw [5, 6, 7] (fun t5 t6 t7 wr => ∃ (j : Nat), t7 = .int .i64 j ∧ j ≤ N ∧ t5 = .string (txB (rp bkI j)) ∧ t6 = .string (txB (rp bkE j)) ∧ wr = w) (fun _ _ t _ => N - (intOf t).toNat)
  case atStart => exact ⟨0, rfl, by omega, rfl, rfl, rfl⟩
  case round =>
    obtain ⟨j, rfl, hj, rfl, rfl, hX⟩ := hrel
    obtain rfl := hX.symm
    have hl1 : (txB (rp bkI j)).size ≤ 420 := by rw [txB_size, rp_len]; show j * 7 ≤ _; omega
    have hl2 : (txB (rp bkE j)).size ≤ 120 := by rw [txB_size, rp_len]; show j * 2 ≤ _; omega
    by_cases hlt : j < N
    · have HS1 : Hd (txB (rp bkI j) ++ ⟨#[105, 102, 32, 49, 32, 123, 32]⟩ = txB (rp bkI (j + 1))) := txB_app (rp bkI j) bkI
      have HS2 : Hd (txB (rp bkE j) ++ ⟨#[32, 125]⟩ = txB (rp bkE (j + 1))) := txB_app (rp bkE j) bkE
      generalize txB (rp bkI j) = s1 at *
      generalize txB (rp bkE j) = s2 at *
      go_wp2_with fail
      go_roundw
      case rel => exact ⟨j + 1, by go_num, by omega, by first | rw [unhide HS1] | (rw [← unhide HS1]; rfl), by first | rw [unhide HS2] | (rw [← unhide HS2]; rfl), by first | rfl | trivial⟩
      case measure => simp [intOf]; omega
    · obtain rfl : j = N := by omega
      have HT : Hd (⟨#[102, 110, 32, 109, 97, 105, 110, 32, 40, 32, 41, 32, 123, 32]⟩ ++ txB (rp bkI j) ++ txB (rp bkE j) ++ ⟨#[32, 125]⟩ = (⟨(bkV j).toArray⟩ : ByteArray)) := by
        have e2 := txB_app bkA (rp bkI j)
        have e3 := txB_app (bkA ++ rp bkI j) (rp bkE j)
        have e4 := txB_app (bkA ++ rp bkI j ++ rp bkE j) bkE
        show txB bkA ++ txB (rp bkI j) ++ txB (rp bkE j) ++ txB bkE = _
        rw [e2, e3, e4]
        rfl
      have HC : Hd (∀ W, Ext w W → Calls Tryz.prog 6 #[.string (⟨#[102, 110, 32, 109, 97, 105, 110, 32, 40, 32, 41, 32, 123, 32]⟩ ++ txB (rp bkI j) ++ txB (rp bkE j) ++ ⟨#[32, 125]⟩)] W fun e w' => ∃ ua uc, e = .returned (.tuple #[.slice ua 1 uc, .int .i64 0, .int .i64 0]) ∧ RepFL w' (InW w') [mnP (trV j)] ua ∧ Ext W w') := fun W x => by
        rw [unhide HT]; exact unhide HPv W x
      have hz : (⟨#[102, 110, 32, 109, 97, 105, 110, 32, 40, 32, 41, 32, 123, 32]⟩ ++ txB (rp bkI j) : ByteArray).size ≤ 500 := by rw [ByteArray.size_append]; show 14 + _ ≤ _; omega
      have hz2 : (⟨#[102, 110, 32, 109, 97, 105, 110, 32, 40, 32, 41, 32, 123, 32]⟩ ++ txB (rp bkI j) ++ txB (rp bkE j) : ByteArray).size ≤ 700 := by rw [ByteArray.size_append]; omega
      clear HPv
      generalize txB (rp bkI j) = s1 at *
      generalize txB (rp bkE j) = s2 at *
      go_wp2_with (first
        | (go_at_call 6; refine Calls.mono (unhide HC _ (Ext.refl _)) ?_; rintro e w1 ⟨ua, uc, rfl, hr, hw⟩; have X1 := hide hw; have R1 := hide hr; clear hw hr HC)
        | (have T9 := unhide X1; go_at_call 13; refine Calls.mono (unhide HPn _ _ _ T9 (unhide R1)) ?_; rintro e w2 ⟨rfl, hw⟩; have X2 := hide (T9.trans hw); have R2 := hide ((unhide R1).inw hw); clear hw T9 R1)
        | (have T9 := unhide X2; go_at_call 6; refine Calls.mono (unhide HPr _ T9) ?_; rintro e w3 ⟨ub, ud, rfl, hr, hw⟩; have X3 := hide (T9.trans hw); have R3 := hide ((unhide R2).inw hw); have S3 := hide hr; clear hw hr T9)
        | (have T9 := unhide X3; go_at_call 8; refine Calls.mono (unhide HSm _ _ _ _ _ (unhide S3) (unhide R3)) ?_; rintro e w4 ⟨rfl, hw⟩; have X4 := hide (T9.trans hw); clear hw T9)
        | (have T9 := unhide X4; go_at_call 9; refine Calls.mono (unhide HAw _ T9) ?_; rintro e w5 ⟨rfl, hw⟩; have X5 := hide (T9.trans hw); clear hw T9))
      go_ret
      exact ⟨rfl, unhide X5⟩

set_option maxHeartbeats 1000000 in
theorem blocks_deep (a0 : Int) (w : World) (N : Nat) (hn : (bits .and .i64 a0 65535).tmod 60 = N) (hN : N < 60) (h24 : 24 ≤ N) (he : Er w) (hO : Opx w) :
    Calls Tryz.prog 5 #[.int .i64 a0, .bool false] w fun e w' => e = .returned (.bool true) ∧ Ext w w' := by
  have hlV : (bkV N).length ≤ 4000 := by
    unfold bkV
    simp only [List.length_append, rp_len]
    show 14 + N * 7 + N * 2 + 2 ≤ _
    omega
  have hW := okW N h24 hN
  unfold bkOkW at hW
  have HAw := hide (fun (W : World) (x : Ext w W) => awake5_w W (he.on x) (hO.ext x))
  have HPv := hide (fun (W : World) (x : Ext w W) => prog_bad hW hlV W (he.on x) (hO.ext x))
  clear he hO hW hlV
  go_enter Tryz.func5, Tryz.ntmps5
  go_wp2_with fail
  go_loopw [5, 6, 7] (fun t5 t6 t7 wr => ∃ (j : Nat), t7 = .int .i64 j ∧ j ≤ N ∧ t5 = .string (txB (rp bkI j)) ∧ t6 = .string (txB (rp bkE j)) ∧ wr = w) (fun _ _ t _ => N - (intOf t).toNat)
  case atStart => exact ⟨0, rfl, by omega, rfl, rfl, rfl⟩
  case round =>
    obtain ⟨j, rfl, hj, rfl, rfl, hX⟩ := hrel
    obtain rfl := hX.symm
    have hl1 : (txB (rp bkI j)).size ≤ 420 := by rw [txB_size, rp_len]; show j * 7 ≤ _; omega
    have hl2 : (txB (rp bkE j)).size ≤ 120 := by rw [txB_size, rp_len]; show j * 2 ≤ _; omega
    by_cases hlt : j < N
    · have HS1 : Hd (txB (rp bkI j) ++ ⟨#[105, 102, 32, 49, 32, 123, 32]⟩ = txB (rp bkI (j + 1))) := txB_app (rp bkI j) bkI
      have HS2 : Hd (txB (rp bkE j) ++ ⟨#[32, 125]⟩ = txB (rp bkE (j + 1))) := txB_app (rp bkE j) bkE
      generalize txB (rp bkI j) = s1 at *
      generalize txB (rp bkE j) = s2 at *
      go_wp2_with fail
      go_roundw
      case rel => exact ⟨j + 1, by go_num, by omega, by first | rw [unhide HS1] | (rw [← unhide HS1]; rfl), by first | rw [unhide HS2] | (rw [← unhide HS2]; rfl), by first | rfl | trivial⟩
      case measure => simp [intOf]; omega
    · obtain rfl : j = N := by omega
      have HT : Hd (⟨#[102, 110, 32, 109, 97, 105, 110, 32, 40, 32, 41, 32, 123, 32]⟩ ++ txB (rp bkI j) ++ txB (rp bkE j) ++ ⟨#[32, 125]⟩ = (⟨(bkV j).toArray⟩ : ByteArray)) := by
        have e2 := txB_app bkA (rp bkI j)
        have e3 := txB_app (bkA ++ rp bkI j) (rp bkE j)
        have e4 := txB_app (bkA ++ rp bkI j ++ rp bkE j) bkE
        show txB bkA ++ txB (rp bkI j) ++ txB (rp bkE j) ++ txB bkE = _
        rw [e2, e3, e4]
        rfl
      have HC : Hd (∀ W, Ext w W → Calls Tryz.prog 6 #[.string (⟨#[102, 110, 32, 109, 97, 105, 110, 32, 40, 32, 41, 32, 123, 32]⟩ ++ txB (rp bkI j) ++ txB (rp bkE j) ++ ⟨#[32, 125]⟩)] W fun e w' => ∃ p, e = .returned (.tuple #[.slice none 0 0, .int .i64 p, .int .i64 21]) ∧ Ext W w') := fun W x => by
        rw [unhide HT]; exact unhide HPv W x
      have hz : (⟨#[102, 110, 32, 109, 97, 105, 110, 32, 40, 32, 41, 32, 123, 32]⟩ ++ txB (rp bkI j) : ByteArray).size ≤ 500 := by rw [ByteArray.size_append]; show 14 + _ ≤ _; omega
      have hz2 : (⟨#[102, 110, 32, 109, 97, 105, 110, 32, 40, 32, 41, 32, 123, 32]⟩ ++ txB (rp bkI j) ++ txB (rp bkE j) : ByteArray).size ≤ 700 := by rw [ByteArray.size_append]; omega
      clear HPv
      generalize txB (rp bkI j) = s1 at *
      generalize txB (rp bkE j) = s2 at *
      go_wp2_with (first
        | (go_at_call 6; refine Calls.mono (unhide HC _ (Ext.refl _)) ?_; rintro e w1 ⟨p, rfl, hw⟩; have X1 := hide hw; clear hw HC)
        | (have T9 := unhide X1; go_at_call 9; refine Calls.mono (unhide HAw _ T9) ?_; rintro e w5 ⟨rfl, hw⟩; have X5 := hide (T9.trans hw); clear hw T9))
      go_ret
      exact ⟨rfl, unhide X5⟩

theorem blocks_walk (a0 : Int) (b : Bool) (w : World) (he : Er w) (hO : Opx w) :
    Calls Tryz.prog 5 #[.int .i64 a0, .bool b] w fun e w' => e = .returned (.bool true) ∧ Ext w w' := by
  obtain ⟨N, hn, hN⟩ := kmaskB a0 60 (by omega)
  cases b with
  | true => exact blocks_chain a0 w N hn hN he hO
  | false =>
    by_cases h : N < 24
    · exact blocks_in a0 w N hn h he hO
    · exact blocks_deep a0 w N hn hN (by omega) he hO

end Go.Proofs.YthoablpjkgeekaaGreatDoor
