/- The law ThreadChains: any two lengths. -/
import Derived.Test.YtdnhekgbfhlhoaaThJ
import Derived.Test.YtdnhekgbfhlhoaaThZ
import Derived.Test.YtdnhekgbfhlhoaaGrGb
set_option linter.unusedSimpArgs false
set_option linter.unusedVariables false
set_option maxRecDepth 10000
namespace Go.Proofs.Ytdnhekgbfhlhoaa
open Go.RowKit

set_option maxHeartbeats 2000000 in
theorem chains_walk (a0 a1 : Int) (w : World) : Calls Try.prog 3 #[.int .i64 a0, .int .i64 a1] w fun e w' => e = .returned (.bool true) ∧ Ext w w' := by
  obtain ⟨n, hn0, hn1⟩ := n_mask a0 40 (by decide)
  have hn0 : (bits .and .i64 a0 65535).tmod 40 = n := hn0
  obtain ⟨m, hm0, hm1⟩ := n_mask a1 40 (by decide)
  have hm0 : (bits .and .i64 a1 65535).tmod 40 = m := hm0
  have HAw := hide awake16_w
  have HSm := hide (fun (a b : Option Addr) (ac bc : Nat) (aa ba : List (Option Addr × Nat)) (W : World) (ha : RepB W (In W) a [⟨2, ⟨3, 0, 0, 0⟩⟩] aa) (hb : RepB W (In W) b [⟨2, ⟨3, 0, 0, 0⟩⟩] ba) => sameFn_w a b ac bc aa ba W ha hb)
  have HRun := hide (fun (a : Option Addr) (c : Nat) (ads : List (Option Addr × Nat)) (W : World) (hr : RepB W (In W) a (cb n m) ads) => run_l1 ⟨#[]⟩ 1 1 a c 1 (n + m) (cb n m) ads W (cb_len n m) (by omega) (Or.inr rfl) (cb_cs n m) hr (cb_fwd n m) (cb_turn n m))
  obtain ⟨x0, hx0⟩ : ∃ x0 : Int, x0 = (if n = 0 then ((n + m + 1 : Nat) : Int) else 1) := ⟨_, rfl⟩
  obtain ⟨y0, hy0⟩ : ∃ y0 : Int, y0 = (if m = 0 then ((n + m + 1 : Nat) : Int) else ((n + 1 : Nat) : Int)) := ⟨_, rfl⟩
  have Hb0 : Hd (cb0 n m = ⟨1, ⟨2, 0, x0, y0⟩⟩) := by unfold Hd cb0; rw [hx0, hy0]
  have HC1 : Hd (∀ W : World, W.cell? ⟨w.heap.size + 1, 0, none⟩ = some (.int .i64 ((n + m + 1 : Nat) : Int)) → Calls Try.prog 4 #[.int .i64 (n : Int), .int .i64 1, .pointer (some ⟨w.heap.size + 1, 0, none⟩)] W fun e w' => e = .returned (.int .i64 x0) ∧ w' = W) := fun W h => by
    have := first_w (n : Int) 1 ((n + m + 1 : Nat) : Int) (w.heap.size + 1) W h
    rw [hx0]
    have e : (if (n : Int) = 0 then ((n + m + 1 : Nat) : Int) else 1) = (if n = 0 then ((n + m + 1 : Nat) : Int) else 1) := by
      by_cases hz : n = 0
      · rw [if_pos hz, if_pos (by omega)]
      · rw [if_neg hz, if_neg (by omega)]
    rw [e] at this
    exact this
  have HC2 : Hd (∀ W : World, W.cell? ⟨w.heap.size + 1, 0, none⟩ = some (.int .i64 ((n + m + 1 : Nat) : Int)) → Calls Try.prog 4 #[.int .i64 (m : Int), .int .i64 ((n + 1 : Nat) : Int), .pointer (some ⟨w.heap.size + 1, 0, none⟩)] W fun e w' => e = .returned (.int .i64 y0) ∧ w' = W) := fun W h => by
    have := first_w (m : Int) ((n + 1 : Nat) : Int) ((n + m + 1 : Nat) : Int) (w.heap.size + 1) W h
    rw [hy0]
    have e : (if (m : Int) = 0 then ((n + m + 1 : Nat) : Int) else ((n + 1 : Nat) : Int)) = (if m = 0 then ((n + m + 1 : Nat) : Int) else ((n + 1 : Nat) : Int)) := by
      by_cases hz : m = 0
      · rw [if_pos hz, if_pos (by omega)]
      · rw [if_neg hz, if_neg (by omega)]
    rw [e] at this
    exact this
  obtain ⟨iK, hi, hz0, hz1, hz2⟩ := k_infoK
  have HI := hide hi
  have Z0 := hide hz0
  have Z1 := hide hz1
  have Z2 := hide hz2
  have hE : (1 : Int) + (n : Int) + (m : Int) = ((n + m + 1 : Nat) : Int) := by omega
  have hF1 : IntKind.i64.wrap (1 + (n : Int)) = ((n + 1 : Nat) : Int) := by rw [IntKind.wrap_i64]; omega
  obtain ⟨E, hEe⟩ : ∃ E : Int, E = ((n + m + 1 : Nat) : Int) := ⟨_, rfl⟩
  rw [← hEe] at HC1 HC2 hE
  obtain ⟨n1, hn1e⟩ : ∃ n1 : Int, n1 = ((n + 1 : Nat) : Int) := ⟨_, rfl⟩
  rw [← hn1e] at HC2 hF1
  have hE2 : wrap64 (n1 + (m : Int)) = E := by first | (unfold wrap64; omega) | (rw [wrap64_id] <;> omega) | (simp [wrap64]; omega)
  have HEe := hide hEe
  have Hn1 := hide hn1e
  clear hi hz0 hz1 hz2 hx0 hy0 hEe hn1e hE
  have S0 : Hd (LwI w ((w.alloc (.cells #[.string ⟨#[]⟩, .int .i64 1, .int .i64 1, .slice none 0 0] 24)).alloc (.cells #[.int .i64 E] 3)) E [] none 0 []) := by
    refine ⟨ext2 _ _, (Row.new w [.string ⟨#[]⟩, .int .i64 1, .int .i64 1, .slice none 0 0] 24).on (Ext.alloc _ _), ?_, BlA.nil _ _⟩
    have := Row.new (w.alloc (.cells #[.string ⟨#[]⟩, .int .i64 1, .int .i64 1, .slice none 0 0] 24)) [.int .i64 E] 3
    rw [sz1] at this
    exact this
  go_enter Try.func3, Try.ntmps3
  go_wp2_with fail
  obtain ⟨W0, hW0⟩ : ∃ W0, W0 = (w.alloc (.cells #[.string ⟨#[]⟩, .int .i64 1, .int .i64 1, .slice none 0 0] 24)).alloc (.cells #[.int .i64 E] 3) := ⟨_, rfl⟩
  rw [← hW0] at S0
  rw [← hW0]
  have hsz : W0.heap.size = w.heap.size + 2 := by rw [hW0, sz1, sz1]
  have q3 : W0.cell? ⟨w.heap.size, 3, none⟩ = some (.slice none 0 0) := (unhide S0).fb.cell 3 rfl
  have q3a := fun o => (Ext.alloc W0 o).cell q3
  have q3b := fun o1 o2 => (ext2 (w := W0) o1 o2).cell q3
  have hEb := (unhide S0).eb
  have HSz := hide hsz
  have HEb : Hd (∀ W, Ext W0 W → W.cell? ⟨w.heap.size + 1, 0, none⟩ = some (.int .i64 E)) := fun W x => (hEb.on x).cell 0 rfl
  clear hW0 hEb hsz hn0 hm0
  simp only [hE2]
  refine Code.wp_mono (Q := fun e a w' => ∃ (g' cap' : Nat) (w3 : World), e = .normal ∧ a = { tmps := #[.int .i64 (n : Int), .int .i64 (m : Int), undef, undef, .bool false, .pointer (some ⟨w.heap.size, 0, none⟩), .pointer (some ⟨w.heap.size + 1, 0, none⟩), .func (.func 4) #[] #[.pointer (some ⟨w.heap.size + 1, 0, none⟩)], undef, undef, undef, undef, undef, .int .i64 a0, .int .i64 (bits .and .i64 a0 65535), .int .i64 (n : Int), .int .i64 a1, .int .i64 (bits .and .i64 a1 65535), .int .i64 (m : Int), .agg #[.string ⟨#[]⟩, .int .i64 1, .int .i64 1, .slice none 0 0], .int .i64 (n : Int), .int .i64 n1, .int .i64 (m : Int), .int .i64 E, .func (.func 4) #[] #[.pointer (some ⟨w.heap.size + 1, 0, none⟩)], .pointer (some ⟨w.heap.size, 3, none⟩), .slice none 0 0, .agg #[.int .i64 6, .int .i64 0, .int .i64 0, .int .i64 0, .int .i64 0, .int .i64 0, .int .i64 0, .int .i64 0, .complex .f64 0 0, .string ⟨#[]⟩, .slice none 0 0, .slice none 0 0], .slice (some ⟨W0.heap.size, 0, none⟩) 1 1, .func (.func 4) #[] #[.pointer (some ⟨w.heap.size + 1, 0, none⟩)], .int .i64 (n : Int), .int .i64 x0, .func (.func 4) #[] #[.pointer (some ⟨w.heap.size + 1, 0, none⟩)], .int .i64 (m : Int), .int .i64 (n : Int), .int .i64 n1, .int .i64 y0, .agg #[.int .i64 2, .int .i64 0, .int .i64 x0, .int .i64 y0], .agg #[.slice (some ⟨W0.heap.size, 0, none⟩) 1 1, .int .i64 2, .int .i64 0, .int .i64 x0, .int .i64 y0], .slice (some ⟨W0.heap.size + 1, 0, none⟩) 1 1, .slice (some ⟨g', 0, none⟩) 1 cap', .pointer (some ⟨w.heap.size, 3, none⟩), undef, undef, undef, undef, undef, undef, undef, undef, undef, undef, undef, undef, undef, undef, undef, undef, undef, undef, undef, undef, undef, undef, undef, undef, undef, undef, undef, undef, undef, undef, undef, undef, undef, undef, undef, undef, undef, undef, undef, undef, undef, undef, undef, undef, undef, undef, undef, undef, undef, undef, undef, undef, undef, undef, undef, undef, undef, undef, undef, undef], defers := [] } ∧ w' = w3.setCell ⟨w.heap.size, 3, none⟩ (.slice (some ⟨g', 0, none⟩) 1 cap') ∧ Hd (LwI w (w3.setCell ⟨w.heap.size, 3, none⟩ (.slice (some ⟨g', 0, none⟩) ([] : List RB).length.succ cap')) E ([] ++ [⟨1, ⟨2, 0, x0, y0⟩⟩]) (some ⟨g', 0, none⟩) cap' ([] ++ [(some ⟨W0.heap.size, 0, none⟩, 1)]))) ?mono ?region
  case region =>
    refine Code.wp_mono ?_ (regionM _ w W0 w.heap.size (w.heap.size + 1) rfl n m n1 x0 y0 E rfl rfl rfl rfl rfl hF1 rfl (unhide HSz) HC1 HC2 S0)
    intro e a w' h
    cases e
    case normal =>
      obtain ⟨g', cap', w3, hG, rfl, rfl⟩ := h
      have hL := hG.2.2
      refine ⟨g', cap', w3, rfl, ?_, rfl, hL⟩
      clear hL hG S0 HC1 HC2 HEb q3a q3b q3
      kernel_rfl
    all_goals exact h.elim
  case mono =>
    rintro e a w' ⟨g', cap', w3, rfl, rfl, rfl, S3⟩
    have S4 : Hd (LwI w (w3.setCell ⟨w.heap.size, 3, none⟩ (.slice (some ⟨g', 0, none⟩) 1 cap')) E (cb1 n m 0) (some ⟨g', 0, none⟩) cap' [(some ⟨W0.heap.size, 0, none⟩, 1)]) := by
      have h := unhide S3
      have e : cb1 n m 0 = [] ++ [⟨1, ⟨2, 0, x0, y0⟩⟩] := by unfold cb1; rw [unhide Hb0]; rfl
      unfold Hd
      rw [e]
      exact h
    clear S3 q3 q3a q3b S0 HEb HC1 HC2 Hb0 HSz
    go_wp2_with fail
    go_loopw [8] (fun t wr => ∃ (i k : Nat) (va : Option Addr) (vc : Nat) (ads : List (Option Addr × Nat)), t = .int .i64 (i : Int) ∧ i ≤ n ∧ Hd (k = (cb1 n m i).length) ∧ Hd (k = i + 1) ∧ Hd (LwI w wr E (cb1 n m i) va vc ads)) (fun t _ => n - (intOf t).toNat)
    case atStart => exact ⟨0, 1, _, _, _, rfl, by omega, rfl, rfl, S4⟩
    case round =>
      clear S4
      obtain ⟨i, k, va, vc, ads, rfl, hi, hk, hki, hS⟩ := hrel
      by_cases hlt : i < n
      · have q3 := (unhide hS).fb.cell 3 rfl
        rw [← unhide hk] at q3
        have q6 := (unhide hS).eb.cell 0 rfl
        have HO : Hd (∀ o, (wr.alloc o).ownsRow w.heap.size 37 5 (.slice va k vc) k (bC (cb1 n m i) ads)) := fun o => by
          have := ((unhide hS).bl.on (Ext.alloc wr o)).own
          rw [← unhide hk] at this
          exact this
        have HX := hide (unhide hS).ext.size
        have hlt2 : (i : Int) < (n : Int) := by omega
        by_cases hin : i + 1 = n
        · have heq : ((i : Int) + 1 == (n : Int)) = true := by simp; omega
          have hin2 : (i : Int) + 1 = (n : Int) := by omega
          have hT : Hd (cb1 n m i ++ [⟨0, ⟨1, 0, E, 0⟩⟩] = cb1 n m (i + 1)) := by
            unfold Hd cb1
            rw [List.range_succ, List.map_append, List.cons_append, unhide HEe]
            simp [cbT, hin]
          have hin3 := hide hin2
          clear hin2
          go_wp2_with (at_builtin; refine kapp_list rfl (.tmp 55) (.tmp 59) 22 rfl w.heap.size 37 iK (.agg #[.slice none 0 0, .int .i64 0, .int .i64 0, .int .i64 0, .int .i64 0]) 5 56 Try.underlying22 (unhide HI) (unhide Z0) (unhide Z1) (unhide Z2) rfl (by decide) va k vc (bC (cb1 n m i) ads) rfl (unhide HO _) ⟨wr.heap.size, 0, none⟩ 1 1 (rbC ⟨0, ⟨1, 0, E, 0⟩⟩ (none, 0)) rfl (by decide) rfl (k_new _ _ rfl _ _) (one_rbC _ _) ?c1 ?c2 ?c3 ?_)
          case c1 => have := unhide hki; unfold maxLen; omega
          case c2 => have := unhide hki; omega
          case c3 => rw [sz1]; have := unhide HX; omega
          intro g' cap' w4 ho hgr hw
          have xg := (((unhide hS).on (Ext.alloc wr (.cells #[.slice none 0 0, .int .i64 1, .int .i64 0, .int .i64 E, .int .i64 0] 37))))
          have S5 : Hd (LwI w (w4.setCell ⟨w.heap.size, 3, none⟩ (.slice (some ⟨g', 0, none⟩) (k + 1) cap')) E (cb1 n m i ++ [⟨0, ⟨1, 0, E, 0⟩⟩]) (some ⟨g', 0, none⟩) cap' (ads ++ [(none, 0)])) := by
            have ho2 := ho
            have hgr2 := hgr
            rw [unhide hk] at ho2 hgr2
            have := (unhide hS).push ⟨0, ⟨1, 0, E, 0⟩⟩ (none, 0) (fun _ => rfl) (World.ownsRow_nil _ _ _ _) hgr2 ho2
            rw [unhide hk]
            exact this
          have r3 : Row w4 w.heap.size 24 [.string ⟨#[]⟩, .int .i64 1, .int .i64 1, .slice va k vc] := by
            have := row_own xg.fb xg.bl.own (by rw [unhide hk] at hgr; exact hgr) (by decide)
            rw [← unhide hk] at this
            exact this
          have c3 := r3.cell 3 rfl
          have f3 := fun j : Nat => k_rowF r3 j
          rw [unhide hT] at S5
          clear ho hgr hw xg r3 HO q3 q6
          go_wp2_with fail
          go_roundw
          case rel => exact ⟨i + 1, k + 1, _, _, _, by go_num, by omega, by unfold Hd; rw [← unhide hT, List.length_append, ← unhide hk]; rfl, by have := unhide hki; unfold Hd; omega, S5⟩
          case measure => simp [intOf]; omega
        · have heq : ((i : Int) + 1 == (n : Int)) = false := by simp; omega
          have hin2 : ¬ (i : Int) + 1 = (n : Int) := by omega
          have hT : Hd (cb1 n m i ++ [⟨0, ⟨1, 0, 2 + (i : Int), 0⟩⟩] = cb1 n m (i + 1)) := by
            unfold Hd cb1
            rw [List.range_succ, List.map_append, List.cons_append]
            simp [cbT, hin]
            omega
          go_wp2_with (at_builtin; refine kapp_list rfl (.tmp 55) (.tmp 59) 22 rfl w.heap.size 37 iK (.agg #[.slice none 0 0, .int .i64 0, .int .i64 0, .int .i64 0, .int .i64 0]) 5 56 Try.underlying22 (unhide HI) (unhide Z0) (unhide Z1) (unhide Z2) rfl (by decide) va k vc (bC (cb1 n m i) ads) rfl (unhide HO _) ⟨wr.heap.size, 0, none⟩ 1 1 (rbC ⟨0, ⟨1, 0, 2 + (i : Int), 0⟩⟩ (none, 0)) rfl (by decide) rfl (k_new _ _ rfl _ _) (one_rbC _ _) ?c1 ?c2 ?c3 ?_)
          case c1 => have := unhide hki; unfold maxLen; omega
          case c2 => have := unhide hki; omega
          case c3 => rw [sz1]; have := unhide HX; omega
          intro g' cap' w4 ho hgr hw
          have xg := (((unhide hS).on (Ext.alloc wr (.cells #[.slice none 0 0, .int .i64 1, .int .i64 0, .int .i64 (2 + (i : Int)), .int .i64 0] 37))))
          have S5 : Hd (LwI w (w4.setCell ⟨w.heap.size, 3, none⟩ (.slice (some ⟨g', 0, none⟩) (k + 1) cap')) E (cb1 n m i ++ [⟨0, ⟨1, 0, (2 + (i : Int)), 0⟩⟩]) (some ⟨g', 0, none⟩) cap' (ads ++ [(none, 0)])) := by
            have ho2 := ho
            have hgr2 := hgr
            rw [unhide hk] at ho2 hgr2
            have := (unhide hS).push ⟨0, ⟨1, 0, (2 + (i : Int)), 0⟩⟩ (none, 0) (fun _ => rfl) (World.ownsRow_nil _ _ _ _) hgr2 ho2
            rw [unhide hk]
            exact this
          have r3 : Row w4 w.heap.size 24 [.string ⟨#[]⟩, .int .i64 1, .int .i64 1, .slice va k vc] := by
            have := row_own xg.fb xg.bl.own (by rw [unhide hk] at hgr; exact hgr) (by decide)
            rw [← unhide hk] at this
            exact this
          have c3 := r3.cell 3 rfl
          have f3 := fun j : Nat => k_rowF r3 j
          rw [unhide hT] at S5
          clear ho hgr hw xg r3 HO q3 q6
          go_wp2_with fail
          go_roundw
          case rel => exact ⟨i + 1, k + 1, _, _, _, by go_num, by omega, by unfold Hd; rw [← unhide hT, List.length_append, ← unhide hk]; rfl, by have := unhide hki; unfold Hd; omega, S5⟩
          case measure => simp [intOf]; omega
      · obtain rfl : i = n := by omega
        have S5 : Hd (LwI w wr E (cb2 i m 0) va vc ads) := by
          have e : cb2 i m 0 = cb1 i m i := by simp [cb2]
          unfold Hd
          rw [e]
          exact unhide hS
        have hk2 : Hd (k = (cb2 i m 0).length) := by
          have e : cb2 i m 0 = cb1 i m i := by simp [cb2]
          unfold Hd
          rw [e]
          exact unhide hk
        have hki2 : Hd (k = i + 1 + 0) := unhide hki
        clear hS hk hki
        go_wp2_with fail
        go_loopw [10] (fun t wr => ∃ (j k : Nat) (va : Option Addr) (vc : Nat) (ads : List (Option Addr × Nat)), t = .int .i64 (j : Int) ∧ j ≤ m ∧ Hd (k = (cb2 i m j).length) ∧ Hd (k = i + 1 + j) ∧ Hd (LwI w wr E (cb2 i m j) va vc ads)) (fun t _ => m - (intOf t).toNat)
        case atStart => exact ⟨0, k, _, _, _, rfl, by omega, hk2, hki2, S5⟩
        case round =>
          clear S5 hk2 hki2
          obtain ⟨j, k, va, vc, ads, rfl, hj, hk, hki, hS⟩ := hrel
          by_cases hlt : j < m
          · have q3 := (unhide hS).fb.cell 3 rfl
            rw [← unhide hk] at q3
            have q6 := (unhide hS).eb.cell 0 rfl
            have HO : Hd (∀ o, (wr.alloc o).ownsRow w.heap.size 37 5 (.slice va k vc) k (bC (cb2 i m j) ads)) := fun o => by
              have := ((unhide hS).bl.on (Ext.alloc wr o)).own
              rw [← unhide hk] at this
              exact this
            have HX := hide (unhide hS).ext.size
            have hlt2 : (j : Int) < (m : Int) := by omega
            have hT : Hd (cb2 i m j ++ [⟨0, ⟨1, 0, 2 + (i : Int) + (j : Int), 0⟩⟩] = cb2 i m (j + 1)) := by
              unfold Hd cb2
              rw [List.range_succ, List.map_append, List.append_assoc]
              simp
              omega
            go_wp2_with (at_builtin; refine kapp_list rfl (.tmp 68) (.tmp 75) 22 rfl w.heap.size 37 iK (.agg #[.slice none 0 0, .int .i64 0, .int .i64 0, .int .i64 0, .int .i64 0]) 5 56 Try.underlying22 (unhide HI) (unhide Z0) (unhide Z1) (unhide Z2) rfl (by decide) va k vc (bC (cb2 i m j) ads) rfl (unhide HO _) ⟨wr.heap.size, 0, none⟩ 1 1 (rbC ⟨0, ⟨1, 0, 2 + (i : Int) + (j : Int), 0⟩⟩ (none, 0)) rfl (by decide) rfl (k_new _ _ rfl _ _) (one_rbC _ _) ?c1 ?c2 ?c3 ?_)
            case c1 => have := unhide hki; unfold maxLen; omega
            case c2 => have := unhide hki; omega
            case c3 => rw [sz1]; have := unhide HX; omega
            intro g' cap' w4 ho hgr hw
            have xg := (((unhide hS).on (Ext.alloc wr (.cells #[.slice none 0 0, .int .i64 1, .int .i64 0, .int .i64 (2 + (i : Int) + (j : Int)), .int .i64 0] 37))))
            have S5 : Hd (LwI w (w4.setCell ⟨w.heap.size, 3, none⟩ (.slice (some ⟨g', 0, none⟩) (k + 1) cap')) E (cb2 i m j ++ [⟨0, ⟨1, 0, (2 + (i : Int) + (j : Int)), 0⟩⟩]) (some ⟨g', 0, none⟩) cap' (ads ++ [(none, 0)])) := by
              have ho2 := ho
              have hgr2 := hgr
              rw [unhide hk] at ho2 hgr2
              have := (unhide hS).push ⟨0, ⟨1, 0, (2 + (i : Int) + (j : Int)), 0⟩⟩ (none, 0) (fun _ => rfl) (World.ownsRow_nil _ _ _ _) hgr2 ho2
              rw [unhide hk]
              exact this
            have r3 : Row w4 w.heap.size 24 [.string ⟨#[]⟩, .int .i64 1, .int .i64 1, .slice va k vc] := by
              have := row_own xg.fb xg.bl.own (by rw [unhide hk] at hgr; exact hgr) (by decide)
              rw [← unhide hk] at this
              exact this
            have c3 := r3.cell 3 rfl
            have f3 := fun j : Nat => k_rowF r3 j
            rw [unhide hT] at S5
            clear ho hgr hw xg r3 HO q3 q6
            go_wp2_with fail
            go_roundw
            case rel => exact ⟨j + 1, k + 1, _, _, _, by go_num, by omega, by unfold Hd; rw [← unhide hT, List.length_append, ← unhide hk]; rfl, by have := unhide hki; unfold Hd; omega, S5⟩
            case measure => simp [intOf]; omega
          · obtain rfl : j = m := by omega
            have q3 := (unhide hS).fb.cell 3 rfl
            rw [← unhide hk] at q3
            have q3a := fun o => (Ext.alloc wr o).cell q3
            have HO : Hd (∀ o1 o2, ((wr.alloc o1).alloc o2).ownsRow w.heap.size 37 5 (.slice va k vc) k (bC (cb2 i j j) ads)) := fun o1 o2 => by
              have := ((unhide hS).bl.on (ext2 o1 o2)).own
              rw [← unhide hk] at this
              exact this
            have HX := hide (unhide hS).ext.size
            have hT : Hd (cb2 i j j ++ [⟨1, ⟨3, 0, 0, 0⟩⟩] = cb i j) := rfl
            go_wp2_with (at_builtin; refine kapp_list rfl (.tmp 79) (.tmp 84) 22 rfl w.heap.size 37 iK (.agg #[.slice none 0 0, .int .i64 0, .int .i64 0, .int .i64 0, .int .i64 0]) 5 56 Try.underlying22 (unhide HI) (unhide Z0) (unhide Z1) (unhide Z2) rfl (by decide) va k vc (bC (cb2 i j j) ads) rfl (unhide HO _ _) ⟨wr.heap.size + 1, 0, none⟩ 1 1 (rbC ⟨1, ⟨3, 0, 0, 0⟩⟩ (some ⟨wr.heap.size, 0, none⟩, 1)) rfl (by decide) rfl (k_new _ _ (by simp) _ _) (one_rbC _ _) ?c1 ?c2 ?c3 ?_)
            case c1 => have := unhide hki; unfold maxLen; omega
            case c2 => have := unhide hki; omega
            case c3 => rw [sz1, sz1]; have := unhide HX; omega
            intro g' cap' w4 ho hgr hw
            have xg := (unhide hS).on (ext2 (.cells (outs 1).toArray 32) (.cells #[.slice (some ⟨wr.heap.size, 0, none⟩) 1 1, .int .i64 3, .int .i64 0, .int .i64 0, .int .i64 0] 37))
            have S5 : Hd (LwI w (w4.setCell ⟨w.heap.size, 3, none⟩ (.slice (some ⟨g', 0, none⟩) (k + 1) cap')) E (cb i j) (some ⟨g', 0, none⟩) cap' (ads ++ [(some ⟨wr.heap.size, 0, none⟩, 1)])) := by
              have ho2 := ho
              have hgr2 := hgr
              rw [unhide hk] at ho2 hgr2
              have := ((unhide hS).on (Ext.alloc wr (.cells (outs 1).toArray 32))).push ⟨1, ⟨3, 0, 0, 0⟩⟩ (some ⟨wr.heap.size, 0, none⟩, 1) (fun h => absurd h (by simp)) (own_out wr w.heap.size 1 wr.heap.size rfl (unhide HX) (by omega)) hgr2 ho2
              rw [unhide hk]
              exact this
            have r3 : Row w4 w.heap.size 24 [.string ⟨#[]⟩, .int .i64 1, .int .i64 1, .slice va k vc] := by
              have := row_own xg.fb xg.bl.own (by rw [unhide hk] at hgr; exact hgr) (by decide)
              rw [← unhide hk] at this
              exact this
            have c3 := r3.cell 3 rfl
            have f3 := fun j : Nat => k_rowF r3 j
            have c0 := r3.cell 0 rfl
            have c1 := r3.cell 1 rfl
            have c2 := r3.cell 2 rfl
            have HRu := hide (unhide HRun (some ⟨g', 0, none⟩) cap' (ads ++ [(some ⟨wr.heap.size, 0, none⟩, 1)]) _ ((unhide S5).bl.rep (by rw [cb_len]; omega)))
            have hk4 : i + j + 2 = k + 1 := by have := unhide hki; omega
            rw [hk4] at HRu
            unfold RunE at HRu
            have XS := hide (unhide S5).ext
            clear ho hgr hw xg r3 HO q3 q3a S5 hk4 hT
            go_wp2_with (first
              | (go_at_call 5; refine Calls.mono (unhide HRu) ?_; rintro e w5 ⟨gr, capr, adr, rfl, rr, xr⟩; have RR := hide rr; have XR := hide ((unhide XS).trans xr); clear rr xr)
              | (go_at_call 6; refine Calls.mono (unhide HSm _ _ _ _ _ _ _ ((unhide RR).ext ((ext2 _ _).trans (ext2 _ _))) (want_rep w5 _ _)) ?_; rintro e w6 ⟨rfl, x6⟩; have X6 := hide (((unhide XR).trans ((ext2 _ _).trans (ext2 _ _))).trans x6); clear x6)
              | (go_at_call 7; refine Calls.mono (unhide HAw _) ?_; rintro e w7 ⟨rfl, x7⟩; have X7 := hide ((unhide X6).trans x7); clear x7))
            go_ret
            exact ⟨retB (by first | rfl | simp | decide), unhide X7⟩

end Go.Proofs.Ytdnhekgbfhlhoaa
