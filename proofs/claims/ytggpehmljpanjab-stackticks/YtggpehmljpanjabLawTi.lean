/- The walk of the law StackTicks. -/
import Derived.Test.YtggpehmljpanjabStkRow
import Derived.Test.YtggpehmljpanjabStkTiF
import Derived.Test.YtggpehmljpanjabStkMask
set_option linter.unusedSimpArgs false
set_option linter.unusedVariables false
set_option maxRecDepth 10000
namespace Go.Proofs.Ytggpehmljpanjab
open Go.RowKit

set_option maxHeartbeats 1000000 in
theorem ticks_walk0 (a0 a1 a2 : Int) (w : World) (N p c : Nat) (hn : bits .and .i64 a0 15 = N) (hp : bits .and .i64 a1 31 = p) (hc : bits .and .i64 a2 3 = c) (hN : N ≤ 15) (hp31 : p ≤ 31) (hc3 : c ≤ 3) :
    Calls Try.prog 3 #[.int .i64 a0, .int .i64 a1, .int .i64 a2] w fun e w' => e = .returned (.bool true) ∧ Ext w w' := by
  obtain ⟨i0, hi, hz1, hz2, hz3⟩ := k_infoS
  have HI := hide hi
  have Z0 := hide hz1
  have Z1 := hide hz2
  have Z2 := hide hz3
  have HAw := hide (fun W => awake_s W)
  have HL : Hd (∀ (wr : World), Ext w wr → ∀ ob, w.heap.size ≤ (wr.alloc ob).heap.size) := fun wr x ob => Nat.le_trans x.size (Ext.alloc wr ob).size
  clear hi hz1 hz2 hz3
  go_enter Try.func3, Try.ntmps3
  go_wp2_with fail
  go_loopw [7, 8, 9] (fun t7 t8 t9 wr => ∃ (k : Nat) (a : Option Addr) (m cp : Nat) (tb : Bool), t9 = .int .i64 k ∧ t8 = .bool tb ∧ t7 = .slice a m cp ∧ k ≤ N + 1 ∧ m ≤ 2 * k ∧ Hd (tb = decide (p < k)) ∧ Hd ((tkL p k).length = m) ∧ Hd (RowK w wr (tkL p k) (.slice a m cp))) (fun _ _ t _ => N + 1 - (intOf t).toNat)
  case atStart => exact ⟨0, none, 0, 0, false, rfl, rfl, rfl, by omega, by omega, rfl, rfl, RowK.nil (Ext.refl w)⟩
  case round =>
    obtain ⟨k, a, m, cp, tb, rfl, rfl, rfl, hk, hm2, htb, hml, hR⟩ := hrel
    have HLe := hide (unhide HL wr (unhide hR).ext)
    by_cases hlt : k < N + 1
    · by_cases hkp : k = p
      · have hb : ((k : Int) == (p : Int)) = true := by rw [beq_iff_eq]; omega
        have hap := (unhide hR).app (unhide hml) ([⟨12, 1, 0⟩] : List KI)
        have hst : tkL p (k + 1) = tkL p k ++ ([⟨12, 1, 0⟩] : List KI) := by rw [tkL, if_pos hkp]
        have HST := hide hst
        have HML : Hd ((tkL p (k + 1)).length = m + 1) := by unfold Hd; rw [hst, List.length_append, unhide hml]; rfl
        have HTB : Hd (true = decide (p < k + 1)) := by
          unfold Hd
          rw [decide_eq_true (by omega)]
        have HA := hide hap.1
        have HG := hide hap.2
        have HKP := hide hkp
        clear hap hst hkp
        generalize (tkL p k).flatMap kiC = XS at HA HG
        go_wp2_with (at_builtin; refine kapp_list rfl (.tmp 24) (.tmp 26) 22 rfl w.heap.size 24 i0 (.agg #[.int .i64 0, .int .i64 0, .int .i64 0]) 3 24 Try.underlying22 (unhide HI) (unhide Z0) (unhide Z1) (unhide Z2) rfl (by decide) a m cp _ rfl (unhide HA _) ⟨wr.heap.size, 0, none⟩ 1 1 [.int .i64 12, .int .i64 1, .int .i64 0] rfl (by decide) rfl (k_new _ _ rfl _ _) (k_one_ki ([⟨12, 1, 0⟩] : List KI)) ?c1 ?c2 (unhide HLe _) ?_)
        case c1 => unfold maxLen; omega
        case c2 => omega
        intro g' cap' w3 ho hg hw
        have HW := hide (unhide HG _ w3 g' cap' hg ho)
        clear ho hg hw
        go_wp2_with fail
        go_roundw
        case rel => exact ⟨k + 1, _, m + 1, cap', true, by go_num, rfl, rfl, by omega, by omega, HTB, HML, by rw [unhide HST]; exact HW⟩
        case measure => simp [intOf]; omega
      · have hb : ((k : Int) == (p : Int)) = false := by rw [beq_eq_false_iff_ne]; omega
        have hap := (unhide hR).app (unhide hml) ([⟨1, 0, 0⟩, ⟨4, 0, 0⟩] : List KI)
        have hst : tkL p (k + 1) = tkL p k ++ ([⟨1, 0, 0⟩, ⟨4, 0, 0⟩] : List KI) := by rw [tkL, if_neg hkp]
        have HST := hide hst
        have HML : Hd ((tkL p (k + 1)).length = m + 2) := by unfold Hd; rw [hst, List.length_append, unhide hml]; rfl
        have HTB : Hd (tb = decide (p < k + 1)) := by
          unfold Hd
          rw [unhide htb]
          by_cases h : p < k
          · rw [decide_eq_true h, decide_eq_true (by omega)]
          · rw [decide_eq_false h, decide_eq_false (by omega)]
        have HA := hide hap.1
        have HG := hide hap.2
        have HKP := hide hkp
        clear hap hst hkp
        generalize (tkL p k).flatMap kiC = XS at HA HG
        go_wp2_with (at_builtin; refine kapp_list rfl (.tmp 28) (.tmp 31) 22 rfl w.heap.size 24 i0 (.agg #[.int .i64 0, .int .i64 0, .int .i64 0]) 3 24 Try.underlying22 (unhide HI) (unhide Z0) (unhide Z1) (unhide Z2) rfl (by decide) a m cp _ rfl (unhide HA _) ⟨wr.heap.size, 0, none⟩ 2 2 [.int .i64 1, .int .i64 0, .int .i64 0, .int .i64 4, .int .i64 0, .int .i64 0] rfl (by decide) rfl (k_new _ _ rfl _ _) (k_one_ki ([⟨1, 0, 0⟩, ⟨4, 0, 0⟩] : List KI)) ?c1 ?c2 (unhide HLe _) ?_)
        case c1 => unfold maxLen; omega
        case c2 => omega
        intro g' cap' w3 ho hg hw
        have HW := hide (unhide HG _ w3 g' cap' hg ho)
        clear ho hg hw
        go_wp2_with fail
        go_roundw
        case rel => exact ⟨k + 1, _, m + 2, cap', tb, by go_num, rfl, rfl, by omega, by omega, HTB, HML, by rw [unhide HST]; exact HW⟩
        case measure => simp [intOf]; omega
    · obtain rfl : k = N + 1 := by omega
      have hE : ∃ hs, kHgt [oneF (tkC (N + 1) p c)] 0 300 = some (hs, tkE (N + 1) p c) := tkOk_gives (tkOk_all (N + 1) p c (by omega) (by omega) (by omega))
      obtain ⟨hs, hE⟩ := hE
      have hlen : (tkC (N + 1) p c).length = m + (tkD c).length + 1 := by
        unfold tkC
        rw [List.length_append, List.length_append, unhide hml]
        rfl
      have hD4 : (tkD c).length ≤ 4 := by
        unfold tkD
        split
        · decide
        · split
          · decide
          · decide
      have HH := hide (fun pa W => one_hgt (tkC (N + 1) p c) 300 _ (by omega) (tkC_b (N + 1) p c) (by omega) hE pa W)
      have HO : Hd (∀ (g' cap' : Nat) (W : World), RepC W (In W) (some ⟨g', 0, none⟩) (tkC (N + 1) p c) → Calls Try.prog 5 #[.slice (some ⟨g', 0, none⟩) (m + (tkD c).length + 1) cap'] W fun e w' => ∃ pa, e = .returned (kpV pa 1 1 0) ∧ RepP w' (In w') pa [oneF (tkC (N + 1) p c)] ∧ Ext W w') := fun g' cap' W hr => by
        have := one_any (tkC (N + 1) p c) _ cap' W hr
        rw [hlen] at this
        exact this
      clear hE hlen hD4 hlt hk
      rcases (show c = 0 ∨ c = 1 ∨ c = 2 ∨ c = 3 by omega) with rfl | rfl | rfl | rfl
      · have RK := hR
        have RL := hml
        have hap2 := (unhide RK).app (unhide RL) [⟨7, 0, 0⟩]
        have hfin : tkL p (N + 1) ++ [⟨7, 0, 0⟩] = tkC (N + 1) p 0 := by unfold tkC; simp [tkD]
        rw [hfin] at hap2
        have HA2 := hide hap2.1
        have HG2 := hide hap2.2
        have HLe2 := hide (unhide HL wr (unhide RK).ext)
        clear hap2 hfin
        generalize (tkL p (N + 1)).flatMap kiC = XS2 at HA2 HG2
        have HO2 : Hd (∀ (g' cap' : Nat) (W : World), RepC W (In W) (some ⟨g', 0, none⟩) (tkC (N + 1) p 0) → Calls Try.prog 5 #[.slice (some ⟨g', 0, none⟩) (m + 1) cap'] W fun e w' => ∃ pa, e = .returned (kpV pa 1 1 0) ∧ RepP w' (In w') pa [oneF (tkC (N + 1) p 0)] ∧ Ext W w') := unhide HO
        by_cases hpN : p < N + 1
        · have htv : tb = true := by rw [unhide htb]; exact decide_eq_true hpN
          have herr : tkE (N + 1) p 0 = 0 := by unfold tkE; rw [if_neg (by omega)]
          rw [herr] at HH
          subst htv
          clear herr
          go_wp2_with (at_builtin; refine kapp_list rfl (.tmp 52) (.tmp 54) 22 rfl w.heap.size 24 i0 (.agg #[.int .i64 0, .int .i64 0, .int .i64 0]) 3 24 Try.underlying22 (unhide HI) (unhide Z0) (unhide Z1) (unhide Z2) rfl (by decide) a m cp _ rfl (unhide HA2 _) ⟨wr.heap.size, 0, none⟩ 1 1 [.int .i64 7, .int .i64 0, .int .i64 0] rfl (by decide) rfl (k_new _ _ rfl _ _) (k_one_ki [⟨7, 0, 0⟩]) ?c1 ?c2 (unhide HLe2 _) ?_)
          case c1 => unfold maxLen; omega
          case c2 => omega
          intro g5 cap5 w5 ho5 hg5 hw5
          have HW5 := hide (unhide HG2 _ w5 g5 cap5 hg5 ho5)
          clear ho5 hg5 hw5
          go_wp2_with (first
            | (have T1 := unhide HW5; go_at_call 5; refine Calls.mono (unhide HO2 g5 cap5 _ T1.rep) ?_; rintro e w6 ⟨p6, rfl, r6, hw⟩; have R6 := hide r6; have W6 := hide (T1.ext.trans hw); clear r6 hw T1 HW5)
            | (have T1 := unhide R6; go_at_call 4; refine Calls.mono (unhide HH p6 _ T1) ?_; rintro e w7 ⟨ha, hcc, rfl, _, _, hw⟩; have W7 := hide ((unhide W6).trans hw); clear hw T1 R6 W6)
            | (have T1 := unhide W7; go_at_call 6; refine Calls.mono (unhide HAw _) ?_; rintro e w8 ⟨rfl, hw⟩; have W8 := hide ((unhide W7).trans hw); clear hw T1))
          go_ret
          exact ⟨rfl, unhide W8⟩
        · have htv : tb = false := by rw [unhide htb]; exact decide_eq_false hpN
          have herr : tkE (N + 1) p 0 = 14 := by unfold tkE; rw [if_pos (by omega)]
          rw [herr] at HH
          subst htv
          clear herr
          go_wp2_with (at_builtin; refine kapp_list rfl (.tmp 52) (.tmp 54) 22 rfl w.heap.size 24 i0 (.agg #[.int .i64 0, .int .i64 0, .int .i64 0]) 3 24 Try.underlying22 (unhide HI) (unhide Z0) (unhide Z1) (unhide Z2) rfl (by decide) a m cp _ rfl (unhide HA2 _) ⟨wr.heap.size, 0, none⟩ 1 1 [.int .i64 7, .int .i64 0, .int .i64 0] rfl (by decide) rfl (k_new _ _ rfl _ _) (k_one_ki [⟨7, 0, 0⟩]) ?c1 ?c2 (unhide HLe2 _) ?_)
          case c1 => unfold maxLen; omega
          case c2 => omega
          intro g5 cap5 w5 ho5 hg5 hw5
          have HW5 := hide (unhide HG2 _ w5 g5 cap5 hg5 ho5)
          clear ho5 hg5 hw5
          go_wp2_with (first
            | (have T1 := unhide HW5; go_at_call 5; refine Calls.mono (unhide HO2 g5 cap5 _ T1.rep) ?_; rintro e w6 ⟨p6, rfl, r6, hw⟩; have R6 := hide r6; have W6 := hide (T1.ext.trans hw); clear r6 hw T1 HW5)
            | (have T1 := unhide R6; go_at_call 4; refine Calls.mono (unhide HH p6 _ T1) ?_; rintro e w7 ⟨ha, hcc, rfl, _, _, hw⟩; have W7 := hide ((unhide W6).trans hw); clear hw T1 R6 W6)
            | (have T1 := unhide W7; go_at_call 6; refine Calls.mono (unhide HAw _) ?_; rintro e w8 ⟨rfl, hw⟩; have W8 := hide ((unhide W7).trans hw); clear hw T1))
          go_ret
          exact ⟨rfl, unhide W8⟩
      · have hap := (unhide hR).app (unhide hml) ([⟨12, 2, 0⟩, ⟨9, 0, 0⟩, ⟨4, 0, 0⟩] : List KI)
        have HA := hide hap.1
        have HG := hide hap.2
        have RL : Hd ((tkL p (N + 1) ++ ([⟨12, 2, 0⟩, ⟨9, 0, 0⟩, ⟨4, 0, 0⟩] : List KI)).length = m + 3) := by unfold Hd; rw [List.length_append, unhide hml]; rfl
        clear hap
        generalize (tkL p (N + 1)).flatMap kiC = XS at HA HG
        go_wp2_with (at_builtin; refine kapp_list rfl (.tmp 37) (.tmp 41) 22 rfl w.heap.size 24 i0 (.agg #[.int .i64 0, .int .i64 0, .int .i64 0]) 3 24 Try.underlying22 (unhide HI) (unhide Z0) (unhide Z1) (unhide Z2) rfl (by decide) a m cp _ rfl (unhide HA _) ⟨wr.heap.size, 0, none⟩ 3 3 [.int .i64 12, .int .i64 2, .int .i64 0, .int .i64 9, .int .i64 0, .int .i64 0, .int .i64 4, .int .i64 0, .int .i64 0] rfl (by decide) rfl (k_new _ _ rfl _ _) (k_one_ki ([⟨12, 2, 0⟩, ⟨9, 0, 0⟩, ⟨4, 0, 0⟩] : List KI)) ?c1 ?c2 (unhide HLe _) ?_)
        case c1 => unfold maxLen; omega
        case c2 => omega
        intro g3 cap3 w3 ho hg hw
        have RK := hide (unhide HG _ w3 g3 cap3 hg ho)
        clear ho hg hw HG HA HLe hR
        have hap2 := (unhide RK).app (unhide RL) [⟨7, 0, 0⟩]
        have hfin : tkL p (N + 1) ++ ([⟨12, 2, 0⟩, ⟨9, 0, 0⟩, ⟨4, 0, 0⟩] : List KI) ++ [⟨7, 0, 0⟩] = tkC (N + 1) p 1 := by unfold tkC; simp [tkD]
        rw [hfin] at hap2
        have HA2 := hide hap2.1
        have HG2 := hide hap2.2
        have HLe2 := hide (unhide HL w3 (unhide RK).ext)
        clear hap2 hfin
        generalize (tkL p (N + 1) ++ ([⟨12, 2, 0⟩, ⟨9, 0, 0⟩, ⟨4, 0, 0⟩] : List KI)).flatMap kiC = XS2 at HA2 HG2
        have HO2 : Hd (∀ (g' cap' : Nat) (W : World), RepC W (In W) (some ⟨g', 0, none⟩) (tkC (N + 1) p 1) → Calls Try.prog 5 #[.slice (some ⟨g', 0, none⟩) ((m + 3) + 1) cap'] W fun e w' => ∃ pa, e = .returned (kpV pa 1 1 0) ∧ RepP w' (In w') pa [oneF (tkC (N + 1) p 1)] ∧ Ext W w') := unhide HO
        by_cases hpN : p < N + 1
        · have htv : tb = true := by rw [unhide htb]; exact decide_eq_true hpN
          have herr : tkE (N + 1) p 1 = 0 := by unfold tkE; rw [if_neg (by omega)]
          rw [herr] at HH
          subst htv
          clear herr
          go_wp2_with (at_builtin; refine kapp_list rfl (.tmp 52) (.tmp 54) 22 rfl w.heap.size 24 i0 (.agg #[.int .i64 0, .int .i64 0, .int .i64 0]) 3 24 Try.underlying22 (unhide HI) (unhide Z0) (unhide Z1) (unhide Z2) rfl (by decide) (some ⟨g3, 0, none⟩) (m + 3) cap3 _ rfl (unhide HA2 _) ⟨w3.heap.size, 0, none⟩ 1 1 [.int .i64 7, .int .i64 0, .int .i64 0] rfl (by decide) rfl (k_new _ _ rfl _ _) (k_one_ki [⟨7, 0, 0⟩]) ?c1 ?c2 (unhide HLe2 _) ?_)
          case c1 => unfold maxLen; omega
          case c2 => omega
          intro g5 cap5 w5 ho5 hg5 hw5
          have HW5 := hide (unhide HG2 _ w5 g5 cap5 hg5 ho5)
          clear ho5 hg5 hw5
          go_wp2_with (first
            | (have T1 := unhide HW5; go_at_call 5; refine Calls.mono (unhide HO2 g5 cap5 _ T1.rep) ?_; rintro e w6 ⟨p6, rfl, r6, hw⟩; have R6 := hide r6; have W6 := hide (T1.ext.trans hw); clear r6 hw T1 HW5)
            | (have T1 := unhide R6; go_at_call 4; refine Calls.mono (unhide HH p6 _ T1) ?_; rintro e w7 ⟨ha, hcc, rfl, _, _, hw⟩; have W7 := hide ((unhide W6).trans hw); clear hw T1 R6 W6)
            | (have T1 := unhide W7; go_at_call 6; refine Calls.mono (unhide HAw _) ?_; rintro e w8 ⟨rfl, hw⟩; have W8 := hide ((unhide W7).trans hw); clear hw T1))
          go_ret
          exact ⟨rfl, unhide W8⟩
        · have htv : tb = false := by rw [unhide htb]; exact decide_eq_false hpN
          have herr : tkE (N + 1) p 1 = 0 := by unfold tkE; rw [if_neg (by omega)]
          rw [herr] at HH
          subst htv
          clear herr
          go_wp2_with (at_builtin; refine kapp_list rfl (.tmp 52) (.tmp 54) 22 rfl w.heap.size 24 i0 (.agg #[.int .i64 0, .int .i64 0, .int .i64 0]) 3 24 Try.underlying22 (unhide HI) (unhide Z0) (unhide Z1) (unhide Z2) rfl (by decide) (some ⟨g3, 0, none⟩) (m + 3) cap3 _ rfl (unhide HA2 _) ⟨w3.heap.size, 0, none⟩ 1 1 [.int .i64 7, .int .i64 0, .int .i64 0] rfl (by decide) rfl (k_new _ _ rfl _ _) (k_one_ki [⟨7, 0, 0⟩]) ?c1 ?c2 (unhide HLe2 _) ?_)
          case c1 => unfold maxLen; omega
          case c2 => omega
          intro g5 cap5 w5 ho5 hg5 hw5
          have HW5 := hide (unhide HG2 _ w5 g5 cap5 hg5 ho5)
          clear ho5 hg5 hw5
          go_wp2_with (first
            | (have T1 := unhide HW5; go_at_call 5; refine Calls.mono (unhide HO2 g5 cap5 _ T1.rep) ?_; rintro e w6 ⟨p6, rfl, r6, hw⟩; have R6 := hide r6; have W6 := hide (T1.ext.trans hw); clear r6 hw T1 HW5)
            | (have T1 := unhide R6; go_at_call 4; refine Calls.mono (unhide HH p6 _ T1) ?_; rintro e w7 ⟨ha, hcc, rfl, _, _, hw⟩; have W7 := hide ((unhide W6).trans hw); clear hw T1 R6 W6)
            | (have T1 := unhide W7; go_at_call 6; refine Calls.mono (unhide HAw _) ?_; rintro e w8 ⟨rfl, hw⟩; have W8 := hide ((unhide W7).trans hw); clear hw T1))
          go_ret
          exact ⟨rfl, unhide W8⟩
      · have hap := (unhide hR).app (unhide hml) ([⟨1, 0, 0⟩, ⟨4, 0, 0⟩, ⟨9, 0, 0⟩, ⟨4, 0, 0⟩] : List KI)
        have HA := hide hap.1
        have HG := hide hap.2
        have RL : Hd ((tkL p (N + 1) ++ ([⟨1, 0, 0⟩, ⟨4, 0, 0⟩, ⟨9, 0, 0⟩, ⟨4, 0, 0⟩] : List KI)).length = m + 4) := by unfold Hd; rw [List.length_append, unhide hml]; rfl
        clear hap
        generalize (tkL p (N + 1)).flatMap kiC = XS at HA HG
        go_wp2_with (at_builtin; refine kapp_list rfl (.tmp 45) (.tmp 50) 22 rfl w.heap.size 24 i0 (.agg #[.int .i64 0, .int .i64 0, .int .i64 0]) 3 24 Try.underlying22 (unhide HI) (unhide Z0) (unhide Z1) (unhide Z2) rfl (by decide) a m cp _ rfl (unhide HA _) ⟨wr.heap.size, 0, none⟩ 4 4 [.int .i64 1, .int .i64 0, .int .i64 0, .int .i64 4, .int .i64 0, .int .i64 0, .int .i64 9, .int .i64 0, .int .i64 0, .int .i64 4, .int .i64 0, .int .i64 0] rfl (by decide) rfl (k_new _ _ rfl _ _) (k_one_ki ([⟨1, 0, 0⟩, ⟨4, 0, 0⟩, ⟨9, 0, 0⟩, ⟨4, 0, 0⟩] : List KI)) ?c1 ?c2 (unhide HLe _) ?_)
        case c1 => unfold maxLen; omega
        case c2 => omega
        intro g3 cap3 w3 ho hg hw
        have RK := hide (unhide HG _ w3 g3 cap3 hg ho)
        clear ho hg hw HG HA HLe hR
        have hap2 := (unhide RK).app (unhide RL) [⟨7, 0, 0⟩]
        have hfin : tkL p (N + 1) ++ ([⟨1, 0, 0⟩, ⟨4, 0, 0⟩, ⟨9, 0, 0⟩, ⟨4, 0, 0⟩] : List KI) ++ [⟨7, 0, 0⟩] = tkC (N + 1) p 2 := by unfold tkC; simp [tkD]
        rw [hfin] at hap2
        have HA2 := hide hap2.1
        have HG2 := hide hap2.2
        have HLe2 := hide (unhide HL w3 (unhide RK).ext)
        clear hap2 hfin
        generalize (tkL p (N + 1) ++ ([⟨1, 0, 0⟩, ⟨4, 0, 0⟩, ⟨9, 0, 0⟩, ⟨4, 0, 0⟩] : List KI)).flatMap kiC = XS2 at HA2 HG2
        have HO2 : Hd (∀ (g' cap' : Nat) (W : World), RepC W (In W) (some ⟨g', 0, none⟩) (tkC (N + 1) p 2) → Calls Try.prog 5 #[.slice (some ⟨g', 0, none⟩) ((m + 4) + 1) cap'] W fun e w' => ∃ pa, e = .returned (kpV pa 1 1 0) ∧ RepP w' (In w') pa [oneF (tkC (N + 1) p 2)] ∧ Ext W w') := unhide HO
        by_cases hpN : p < N + 1
        · have htv : tb = true := by rw [unhide htb]; exact decide_eq_true hpN
          have herr : tkE (N + 1) p 2 = 14 := by unfold tkE; rw [if_pos (by omega)]
          rw [herr] at HH
          subst htv
          clear herr
          go_wp2_with (at_builtin; refine kapp_list rfl (.tmp 52) (.tmp 54) 22 rfl w.heap.size 24 i0 (.agg #[.int .i64 0, .int .i64 0, .int .i64 0]) 3 24 Try.underlying22 (unhide HI) (unhide Z0) (unhide Z1) (unhide Z2) rfl (by decide) (some ⟨g3, 0, none⟩) (m + 4) cap3 _ rfl (unhide HA2 _) ⟨w3.heap.size, 0, none⟩ 1 1 [.int .i64 7, .int .i64 0, .int .i64 0] rfl (by decide) rfl (k_new _ _ rfl _ _) (k_one_ki [⟨7, 0, 0⟩]) ?c1 ?c2 (unhide HLe2 _) ?_)
          case c1 => unfold maxLen; omega
          case c2 => omega
          intro g5 cap5 w5 ho5 hg5 hw5
          have HW5 := hide (unhide HG2 _ w5 g5 cap5 hg5 ho5)
          clear ho5 hg5 hw5
          go_wp2_with (first
            | (have T1 := unhide HW5; go_at_call 5; refine Calls.mono (unhide HO2 g5 cap5 _ T1.rep) ?_; rintro e w6 ⟨p6, rfl, r6, hw⟩; have R6 := hide r6; have W6 := hide (T1.ext.trans hw); clear r6 hw T1 HW5)
            | (have T1 := unhide R6; go_at_call 4; refine Calls.mono (unhide HH p6 _ T1) ?_; rintro e w7 ⟨ha, hcc, rfl, _, _, hw⟩; have W7 := hide ((unhide W6).trans hw); clear hw T1 R6 W6)
            | (have T1 := unhide W7; go_at_call 6; refine Calls.mono (unhide HAw _) ?_; rintro e w8 ⟨rfl, hw⟩; have W8 := hide ((unhide W7).trans hw); clear hw T1))
          go_ret
          exact ⟨rfl, unhide W8⟩
        · have htv : tb = false := by rw [unhide htb]; exact decide_eq_false hpN
          have herr : tkE (N + 1) p 2 = 14 := by unfold tkE; rw [if_pos (by omega)]
          rw [herr] at HH
          subst htv
          clear herr
          go_wp2_with (at_builtin; refine kapp_list rfl (.tmp 52) (.tmp 54) 22 rfl w.heap.size 24 i0 (.agg #[.int .i64 0, .int .i64 0, .int .i64 0]) 3 24 Try.underlying22 (unhide HI) (unhide Z0) (unhide Z1) (unhide Z2) rfl (by decide) (some ⟨g3, 0, none⟩) (m + 4) cap3 _ rfl (unhide HA2 _) ⟨w3.heap.size, 0, none⟩ 1 1 [.int .i64 7, .int .i64 0, .int .i64 0] rfl (by decide) rfl (k_new _ _ rfl _ _) (k_one_ki [⟨7, 0, 0⟩]) ?c1 ?c2 (unhide HLe2 _) ?_)
          case c1 => unfold maxLen; omega
          case c2 => omega
          intro g5 cap5 w5 ho5 hg5 hw5
          have HW5 := hide (unhide HG2 _ w5 g5 cap5 hg5 ho5)
          clear ho5 hg5 hw5
          go_wp2_with (first
            | (have T1 := unhide HW5; go_at_call 5; refine Calls.mono (unhide HO2 g5 cap5 _ T1.rep) ?_; rintro e w6 ⟨p6, rfl, r6, hw⟩; have R6 := hide r6; have W6 := hide (T1.ext.trans hw); clear r6 hw T1 HW5)
            | (have T1 := unhide R6; go_at_call 4; refine Calls.mono (unhide HH p6 _ T1) ?_; rintro e w7 ⟨ha, hcc, rfl, _, _, hw⟩; have W7 := hide ((unhide W6).trans hw); clear hw T1 R6 W6)
            | (have T1 := unhide W7; go_at_call 6; refine Calls.mono (unhide HAw _) ?_; rintro e w8 ⟨rfl, hw⟩; have W8 := hide ((unhide W7).trans hw); clear hw T1))
          go_ret
          exact ⟨rfl, unhide W8⟩
      · have RK := hR
        have RL := hml
        have hap2 := (unhide RK).app (unhide RL) [⟨7, 0, 0⟩]
        have hfin : tkL p (N + 1) ++ [⟨7, 0, 0⟩] = tkC (N + 1) p 3 := by unfold tkC; simp [tkD]
        rw [hfin] at hap2
        have HA2 := hide hap2.1
        have HG2 := hide hap2.2
        have HLe2 := hide (unhide HL wr (unhide RK).ext)
        clear hap2 hfin
        generalize (tkL p (N + 1)).flatMap kiC = XS2 at HA2 HG2
        have HO2 : Hd (∀ (g' cap' : Nat) (W : World), RepC W (In W) (some ⟨g', 0, none⟩) (tkC (N + 1) p 3) → Calls Try.prog 5 #[.slice (some ⟨g', 0, none⟩) (m + 1) cap'] W fun e w' => ∃ pa, e = .returned (kpV pa 1 1 0) ∧ RepP w' (In w') pa [oneF (tkC (N + 1) p 3)] ∧ Ext W w') := unhide HO
        by_cases hpN : p < N + 1
        · have htv : tb = true := by rw [unhide htb]; exact decide_eq_true hpN
          have herr : tkE (N + 1) p 3 = 0 := by unfold tkE; rw [if_neg (by omega)]
          rw [herr] at HH
          subst htv
          clear herr
          go_wp2_with (at_builtin; refine kapp_list rfl (.tmp 52) (.tmp 54) 22 rfl w.heap.size 24 i0 (.agg #[.int .i64 0, .int .i64 0, .int .i64 0]) 3 24 Try.underlying22 (unhide HI) (unhide Z0) (unhide Z1) (unhide Z2) rfl (by decide) a m cp _ rfl (unhide HA2 _) ⟨wr.heap.size, 0, none⟩ 1 1 [.int .i64 7, .int .i64 0, .int .i64 0] rfl (by decide) rfl (k_new _ _ rfl _ _) (k_one_ki [⟨7, 0, 0⟩]) ?c1 ?c2 (unhide HLe2 _) ?_)
          case c1 => unfold maxLen; omega
          case c2 => omega
          intro g5 cap5 w5 ho5 hg5 hw5
          have HW5 := hide (unhide HG2 _ w5 g5 cap5 hg5 ho5)
          clear ho5 hg5 hw5
          go_wp2_with (first
            | (have T1 := unhide HW5; go_at_call 5; refine Calls.mono (unhide HO2 g5 cap5 _ T1.rep) ?_; rintro e w6 ⟨p6, rfl, r6, hw⟩; have R6 := hide r6; have W6 := hide (T1.ext.trans hw); clear r6 hw T1 HW5)
            | (have T1 := unhide R6; go_at_call 4; refine Calls.mono (unhide HH p6 _ T1) ?_; rintro e w7 ⟨ha, hcc, rfl, _, _, hw⟩; have W7 := hide ((unhide W6).trans hw); clear hw T1 R6 W6)
            | (have T1 := unhide W7; go_at_call 6; refine Calls.mono (unhide HAw _) ?_; rintro e w8 ⟨rfl, hw⟩; have W8 := hide ((unhide W7).trans hw); clear hw T1))
          go_ret
          exact ⟨rfl, unhide W8⟩
        · have htv : tb = false := by rw [unhide htb]; exact decide_eq_false hpN
          have herr : tkE (N + 1) p 3 = 14 := by unfold tkE; rw [if_pos (by omega)]
          rw [herr] at HH
          subst htv
          clear herr
          go_wp2_with (at_builtin; refine kapp_list rfl (.tmp 52) (.tmp 54) 22 rfl w.heap.size 24 i0 (.agg #[.int .i64 0, .int .i64 0, .int .i64 0]) 3 24 Try.underlying22 (unhide HI) (unhide Z0) (unhide Z1) (unhide Z2) rfl (by decide) a m cp _ rfl (unhide HA2 _) ⟨wr.heap.size, 0, none⟩ 1 1 [.int .i64 7, .int .i64 0, .int .i64 0] rfl (by decide) rfl (k_new _ _ rfl _ _) (k_one_ki [⟨7, 0, 0⟩]) ?c1 ?c2 (unhide HLe2 _) ?_)
          case c1 => unfold maxLen; omega
          case c2 => omega
          intro g5 cap5 w5 ho5 hg5 hw5
          have HW5 := hide (unhide HG2 _ w5 g5 cap5 hg5 ho5)
          clear ho5 hg5 hw5
          go_wp2_with (first
            | (have T1 := unhide HW5; go_at_call 5; refine Calls.mono (unhide HO2 g5 cap5 _ T1.rep) ?_; rintro e w6 ⟨p6, rfl, r6, hw⟩; have R6 := hide r6; have W6 := hide (T1.ext.trans hw); clear r6 hw T1 HW5)
            | (have T1 := unhide R6; go_at_call 4; refine Calls.mono (unhide HH p6 _ T1) ?_; rintro e w7 ⟨ha, hcc, rfl, _, _, hw⟩; have W7 := hide ((unhide W6).trans hw); clear hw T1 R6 W6)
            | (have T1 := unhide W7; go_at_call 6; refine Calls.mono (unhide HAw _) ?_; rintro e w8 ⟨rfl, hw⟩; have W8 := hide ((unhide W7).trans hw); clear hw T1))
          go_ret
          exact ⟨rfl, unhide W8⟩

theorem ticks_walk (a0 a1 a2 : Int) (w : World) : Calls Try.prog 3 #[.int .i64 a0, .int .i64 a1, .int .i64 a2] w fun e w' => e = .returned (.bool true) ∧ Ext w w' := by
  obtain ⟨n, hn, hn1⟩ := k_mask2 a0 15 (by decide)
  obtain ⟨p, hp, hp1⟩ := k_mask2 a1 31 (by decide)
  obtain ⟨c, hc, hc1⟩ := k_mask2 a2 3 (by decide)
  exact ticks_walk0 a0 a1 a2 w n p c hn hp hc hn1 hp1 hc1

end Go.Proofs.Ytggpehmljpanjab
