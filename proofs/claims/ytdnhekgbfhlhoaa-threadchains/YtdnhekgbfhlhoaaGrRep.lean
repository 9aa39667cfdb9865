/- A row of as many -1 as there are points. -/
import Derived.Test.YtdnhekgbfhlhoaaGrRow
import Derived.Laws.Bits64b
set_option linter.unusedSimpArgs false
set_option linter.unusedVariables false
set_option maxRecDepth 10000
namespace Go.Proofs.Ytdnhekgbfhlhoaa
open Go.RowKit

set_option maxHeartbeats 1000000 in
theorem mul64_w (n : Nat) (w : World) (hn : n ≤ 1000000) :
    Calls Try.prog 58 #[.int .u64 1, .int .u64 (n : Int)] w fun e w' => e = .returned (.tuple #[.int .u64 0, .int .u64 (n : Int)]) ∧ w' = w := by
  have m1 : bits .and .u64 (1 : Int) 4294967295 = 1 := by kernel_rfl
  have m2 : bits .and .u64 (n : Int) 4294967295 = (n : Int) := by
    have h := bits_and_u64_nat n 4294967295 (by omega) (by omega)
    rw [show n &&& 4294967295 = n from by rw [show (4294967295 : Nat) = 2 ^ 32 - 1 from rfl, Nat.and_two_pow_sub_one_eq_mod]; exact Nat.mod_eq_of_lt (by omega)] at h
    exact h
  have m3 : (n : Int) / 4294967296 = 0 := by omega
  have m4 : bits .and .u64 (0 : Int) 4294967295 = 0 := by kernel_rfl
  go_enter Try.func58, Try.ntmps58
  go_wp2_with fail
  go_ret2
  exact ⟨rfl, rfl⟩

set_option maxHeartbeats 1000000 in
theorem mul_w (n : Nat) (w : World) (hn : n ≤ 1000000) :
    Calls Try.prog 45 #[.int .u64 1, .int .u64 (n : Int)] w fun e w' => e = .returned (.tuple #[.int .u64 0, .int .u64 (n : Int)]) ∧ w' = w := by
  have H := hide (mul64_w n w hn)
  go_enter Try.func45, Try.ntmps45
  go_wp2_with (go_at_call 58; refine Calls.mono (unhide H) ?_; rintro e w1 ⟨rfl, hw⟩; rw [hw]; clear hw w1)
  go_ret2
  exact ⟨rfl, rfl⟩

/-- So many of n cells are laid. -/
def rp (n k : Nat) : List Value := List.replicate k (Value.int .i64 (-1)) ++ List.replicate (n - k) (Value.int .i64 0)
theorem rp_len (n k : Nat) (h : k ≤ n) : (rp n k).length = n := by unfold rp; rw [List.length_append, List.length_replicate, List.length_replicate]; omega
theorem rp_splice (n k m : Nat) (h : k + m ≤ n) : splice (rp n k) k (List.replicate m (Value.int .i64 (-1))) = rp n (k + m) := by
  unfold splice rp
  rw [List.take_append_of_le_length (by simp), List.take_of_length_le (by simp)]
  rw [List.length_replicate, List.drop_append, List.drop_of_length_le (by simp), List.nil_append, List.drop_replicate]
  rw [← List.append_assoc, List.replicate_append_replicate]
  simp
  omega
theorem rp_full (n : Nat) : rp n n = os (List.replicate n none) := by simp [rp, os, oI]
theorem rp_at (n k j : Nat) (h : j < k) : (rp n k)[j]? = some (.int .i64 (-1)) := by
  unfold rp
  rw [List.getElem?_append_left (by simpa using h)]
  simp [h]

set_option maxHeartbeats 2000000 in
theorem repeat_w (n X : Nat) (w : World) (hn : n ≤ 1000000) (hX : w.cell? ⟨X, 0, none⟩ = some (.int .i64 (-1))) :
    Calls Try.prog 31 #[.slice (some ⟨X, 0, none⟩) 1 1, .int .i64 (n : Int)] w fun e w' => e = .returned (.slice (some ⟨w.heap.size, 0, none⟩) n n) ∧ Row w' w.heap.size 3 (os (List.replicate n none)) ∧ Ext w w' := by
  have H := hide (mul_w n w hn)
  have hmk := make_nats n hn w
  have e0 : (ns (List.replicate n 0)) = rp n 0 := by simp [rp, ns]
  rw [e0] at hmk
  have R0 : Hd (Row (w.alloc (.cells (rp n 0).toArray 3)) w.heap.size 3 (rp n 0)) := Row.new _ _ _
  have hszB : (Try.prog.info? 3).map (·.size) = some 1 := by kernel_rfl
  have HSz := hide hszB
  have HX := hide hX
  clear hX hszB e0
  obtain ⟨c1, hc1⟩ : ∃ c1, c1 = List.replicate (min 1 n) (Value.int .i64 (-1)) := ⟨_, rfl⟩
  have HC1 := hide hc1
  have hcl : c1.length = min 1 n := by rw [hc1]; simp
  have HR1 : Hd (splice (rp n 0) 0 c1 = rp n (min 1 n)) := by
    have := rp_splice n 0 (min 1 n) (by omega)
    rw [Nat.zero_add] at this
    unfold Hd
    rw [hc1]
    exact this
  have HL0 := hide (rp_len n 0 (by omega))
  generalize rp n 0 = r0 at *
  clear hc1
  go_enter Try.func31, Try.ntmps31
  go_wp2_with (first
    | (go_at_call 45; refine Calls.mono (unhide H) ?_; rintro e w1 ⟨rfl, hw⟩; rw [hw]; clear hw w1)
    | (refine wpList_copy_splice rfl (.tmp 31) (.tmp 32) 30 30 rfl 3 Try.underlying30 (unhide HSz) _ _ _ _ _ _ rfl rfl w.heap.size 0 r0 3 (unhide R0) c1 ?c1 ?c2 ?c3 ?c4 w.heap.size w (Ext.alloc _ _) (Nat.le_refl _) ?_))
  case c1 => rw [hcl]
  case c2 =>
    intro _
    intro j v hj
    rw [unhide HC1] at hj
    have hj2 := (List.getElem?_eq_some_iff.1 hj).1
    simp at hj2
    obtain rfl : j = 0 := by omega
    rw [List.getElem?_replicate] at hj
    split at hj
    · injection hj with hj
      subst hj
      exact (Ext.alloc _ _).cell (unhide HX)
    · omega
  case c3 => rw [hcl, unhide HL0]; omega
  case c4 =>
    intro v hv
    rw [unhide HC1] at hv
    obtain rfl := List.eq_of_mem_replicate hv
    rfl
  intro w2 hR2 hE2
  have R2 : Hd (Row w2 w.heap.size 3 (rp n (min 1 n))) := by rw [← unhide HR1]; exact hR2.out
  have E2 : Hd (Ext w w2) := hE2
  clear hR2 hE2 HR1 hcl HC1 HL0 R0 hmk
  go_wp2_with fail
  go_loopw [8] (fun t wr => ∃ k : Nat, t = .int .i64 k ∧ k ≤ n ∧ (k = 0 → n = 0) ∧ Hd (Row wr w.heap.size 3 (rp n k)) ∧ Hd (Ext w wr)) (fun t _ => n - (intOf t).toNat)
  case atStart => exact ⟨min 1 n, rfl, by omega, by omega, R2, E2⟩
  case round =>
    clear R2 E2
    obtain ⟨k, rfl, hk, hk0, hR, hE⟩ := hrel
    by_cases hlt : k < n
    · have hk1 : 0 < k := by omega
      obtain ⟨m, hm⟩ : ∃ m, m = min k (n - k) := ⟨_, rfl⟩
      have hm1 : 1 ≤ m := by omega
      have hm2 : k + m ≤ n := by omega
      obtain ⟨c2, hc2⟩ : ∃ c2, c2 = List.replicate (m) (Value.int .i64 (-1)) := ⟨_, rfl⟩
      have HC2 := hide hc2
      have hcl : c2.length = m := by rw [hc2]; simp
      have HR1 : Hd (splice (rp n k) k c2 = rp n (k + m)) := by
        unfold Hd
        rw [hc2]
        exact rp_splice n k _ (by omega)
      have HL0 := hide (rp_len n k hk)
      have HAt := hide (rp_at n k)
      obtain ⟨r1, hr1⟩ : ∃ r1, r1 = rp n k := ⟨_, rfl⟩
      rw [← hr1] at hR HL0 HR1 HAt
      clear hc2 hr1
      go_wp2_with fail
      have HP1 : Hd (∀ v ∈ c2, v.oneCell' = true) := by
        intro v hv
        rw [unhide HC2] at hv
        obtain rfl := List.eq_of_mem_replicate hv
        rfl
      have HP2 : Hd (∀ (j : Nat) (v : Value), c2[j]? = some v → wr.drew.cell? ((⟨w.heap.size, 0, none⟩ : Addr).add j) = some v) := by
        intro j v hj
        have hj2 := (List.getElem?_eq_some_iff.1 hj).1
        rw [unhide HC2, List.getElem?_replicate] at hj
        rw [k_add]
        show wr.cell? _ = _
        split at hj
        · injection hj with hj
          subst hj
          exact Row.cell (unhide hR) j (unhide HAt j (by omega))
        · cases hj
      have HP3 : Hd (c2.length = Nat.min k (n - k)) := by unfold Hd; rw [hcl, hm]
      have HP4 : Hd (k + c2.length ≤ r1.length) := by unfold Hd; rw [hcl, unhide HL0]; omega
      have HW : Hd (wr.drew.heap[w.heap.size]? = some (.cells r1.toArray 3 (0, 0))) := unhide hR
      have HB : Hd (Below w.heap.size w wr.drew) := Below.drew (unhide hE)
      have HWr : Hd (IntKind.i64.wrap ((k : Int) + (m : Int)) = ((k + m : Nat) : Int)) := by unfold Hd; rw [IntKind.wrap_i64]; omega
      clear hR hE HAt HL0 hm
      go_region_law (refine step_copy_splice rfl (.tmp 41) (.tmp 44) 30 30 rfl 3 Try.underlying30 (unhide HSz) (some ⟨w.heap.size, k, none⟩) (some ⟨w.heap.size, 0, none⟩) (n - k) (n - k) k n (by simp [Act.eval, Act.put]; try omega) (by simp [Act.eval, Act.put]; try omega) w.heap.size k r1 3 (unhide HW) c2 (unhide HP3) (fun _ => ⟨rfl, _, rfl, unhide HP2⟩) (unhide HP4) (unhide HP1) w.heap.size w (unhide HB) (Nat.le_refl _) ?_; intro w3 hR3 hE3)
      all_goals
        have R3 : Hd (Row w3 w.heap.size 3 (rp n (k + m))) := by rw [← unhide HR1]; exact hR3.out
        have E3 : Hd (Ext w w3) := hE3
        clear hR3 hE3
        go_wp2_with fail
        go_roundw
        case rel => exact ⟨k + m, by rw [unhide HWr], by omega, by omega, R3⟩
        case measure => rw [unhide HWr]; simp [intOf]; omega
    · obtain rfl : k = n := by omega
      rw [rp_full] at hR
      go_wp2_with fail
      go_ret
      exact ⟨rfl, unhide hR, unhide hE⟩

/-- What a call that makes a row of points answers. -/
def MadeO (w : World) (l : List (Option Nat)) (e : Ending) (w' : World) : Prop := ∃ b, e = .returned (.slice (some ⟨b, 0, none⟩) l.length l.length) ∧ w.heap.size ≤ b ∧ Row w' b 3 (os l) ∧ Ext w w'

set_option maxHeartbeats 1000000 in
theorem noneOf_w (ga : Option Addr) (n gc : Nat) (w : World) (hn : n ≤ 1000000) :
    Calls Try.prog 64 #[.slice ga n gc] w (MadeO w (List.replicate n none)) := by
  have H := hide (repeat_w n w.heap.size (w.alloc (.cells #[.int .i64 (-1)] 3)) hn (cell_box w _ _ 0 rfl))
  go_enter Try.func64, Try.ntmps64
  go_wp2_with (go_at_call 31; refine Calls.mono (unhide H) ?_; rintro e w1 ⟨rfl, hR, hE⟩; have R1 := hide hR; have E1 := hide hE; clear hR hE)
  go_ret
  have hR := unhide R1
  refine ⟨w.heap.size + 1, ?_, by omega, ?_, (Ext.alloc _ _).trans (unhide E1)⟩
  · simp
  · simpa using hR

/-- Of a row that is made the value. -/
theorem oI_le (x : Option Nat) (n : Nat) (h : ∀ k, x = some k → k ≤ n) : -1 ≤ oI x ∧ oI x ≤ (n : Int) := by
  cases x with
  | none => show (-1 : Int) ≤ -1 ∧ (-1 : Int) ≤ (n : Int); omega
  | some k => have := h k rfl; show (-1 : Int) ≤ (k : Int) ∧ (k : Int) ≤ (n : Int); omega
theorem gPlc_len : ∀ (l : List Nat) (i : Nat) (d : List (Option Nat)), (gPlc l i d).length = d.length
  | [], _, _ => rfl
  | p :: r, i, d => by rw [gPlc, gPlc_len]; simp

end Go.Proofs.Ytdnhekgbfhlhoaa
