/- The walk of the law StackGrows. -/
import Derived.Test.YtggpehmljpanjaaStkRow
import Derived.Test.YtggpehmljpanjaaStkGrF
set_option linter.unusedSimpArgs false
set_option linter.unusedVariables false
set_option maxRecDepth 10000
namespace Go.Proofs.Ytggpehmljpanjaa
open Go.RowKit

theorem one_vrt (code : List KI) (K : Nat) (v : Int × Int) (hn : code.length ≤ 1000000) (hb : KBd code) (hK : K ≤ 1000000) (hv : kVirt [oneF code] 0 K = some v) (pa : Option Addr) (W : World) (hp : RepP W (In W) pa [oneF code]) :
    Calls Try.prog 19 #[kpV pa 1 1 0, .int .i64 0] W fun e w' => e = .returned (.tuple #[.int .i64 v.1, .int .i64 v.2]) ∧ Ext W w' := virtual_w [oneF code] 0 pa 1 0 K v W hp (by simp) (oneF_b hn hb) hK hv

set_option maxHeartbeats 1000000 in
theorem grows_walk0 (a0 a1 : Int) (w : World) (N m : Nat) (hn : (bits .and .i64 a0 65535).tmod 80 = N) (hm : (bits .and .i64 a1 65535).tmod 3 = m) (hN : N < 80) (hm3 : m < 3) :
    Calls Try.prog 5 #[.int .i64 a0, .int .i64 a1] w fun e w' => e = .returned (.bool true) ∧ Ext w w' := by
  obtain ⟨i0, hi, hz1, hz2, hz3⟩ := k_infoS
  have HI := hide hi
  have Z0 := hide hz1
  have Z1 := hide hz2
  have Z2 := hide hz3
  have HAw := hide (fun W => awake_s W)
  have HL : Hd (∀ (wr : World), Ext w wr → ∀ ob, w.heap.size ≤ (wr.alloc ob).heap.size) := fun wr x ob => Nat.le_trans x.size (Ext.alloc wr ob).size
  clear hi hz1 hz2 hz3
  go_enter Try.func5, Try.ntmps5
  go_wp2_with fail
  go_loopw [5, 6] (fun t5 t6 wr => ∃ (k : Nat) (a : Option Addr) (c : Nat), t6 = .int .i64 k ∧ t5 = .slice a k c ∧ k ≤ N + 1 ∧ Hd (RowK w wr (List.replicate k ⟨1, 0, 0⟩) (.slice a k c))) (fun _ t _ => N + 1 - (intOf t).toNat)
  case atStart => exact ⟨0, none, 0, rfl, rfl, by omega, RowK.nil (Ext.refl w)⟩
  case round =>
    obtain ⟨k, a, c, rfl, rfl, hk, hR⟩ := hrel
    by_cases hlt : k < N + 1
    · have hap := (unhide hR).app (by simp) [⟨1, 0, 0⟩]
      have HA := hide hap.1
      have HG := hide hap.2
      have HLe := hide (unhide HL wr (unhide hR).ext)
      clear hap
      generalize (List.replicate k (⟨1, 0, 0⟩ : KI)).flatMap kiC = XS at HA HG
      go_wp2_with (at_builtin; refine kapp_list rfl (.tmp 24) (.tmp 26) 24 rfl w.heap.size 23 i0 (.agg #[.int .i64 0, .int .i64 0, .int .i64 0]) 3 24 Try.underlying24 (unhide HI) (unhide Z0) (unhide Z1) (unhide Z2) rfl (by decide) a k c _ rfl (unhide HA _) ⟨wr.heap.size, 0, none⟩ 1 1 [.int .i64 1, .int .i64 0, .int .i64 0] rfl (by decide) rfl (k_new _ _ rfl _ _) (k_one_ki [⟨1, 0, 0⟩]) ?c1 ?c2 (unhide HLe _) ?_)
      case c1 => unfold maxLen; omega
      case c2 => omega
      intro g' cap' w3 ho hg hw
      have HW := hide (unhide HG _ w3 g' cap' hg ho)
      clear ho hg hw
      go_wp2_with fail
      go_roundw
      case rel => exact ⟨k + 1, _, cap', by go_num, rfl, by omega, by rw [List.replicate_succ']; exact HW⟩
      case measure => simp [intOf]; omega
    · obtain rfl : k = N + 1 := by omega
      have hap := (unhide hR).app (by simp) [⟨8, ((N : Int) + 1 + 1 + m), 0⟩]
      have HA := hide hap.1
      have HG := hide hap.2
      have HLe := hide (unhide HL wr (unhide hR).ext)
      clear hap
      generalize (List.replicate (N + 1) (⟨1, 0, 0⟩ : KI)).flatMap kiC = XS at HA HG
      go_wp2_with (at_builtin; refine kapp_list rfl (.tmp 28) (.tmp 34) 24 rfl w.heap.size 23 i0 (.agg #[.int .i64 0, .int .i64 0, .int .i64 0]) 3 24 Try.underlying24 (unhide HI) (unhide Z0) (unhide Z1) (unhide Z2) rfl (by decide) a (N + 1) c _ rfl (unhide HA _) ⟨wr.heap.size, 0, none⟩ 1 1 [.int .i64 8, .int .i64 ((N : Int) + 1 + 1 + m), .int .i64 0] rfl (by decide) rfl (k_new _ _ rfl _ _) (k_one_ki [⟨8, ((N : Int) + 1 + 1 + m), 0⟩]) ?c1 ?c2 (unhide HLe _) ?_)
      case c1 => unfold maxLen; omega
      case c2 => omega
      intro g1 cap1 w3 ho hg hw
      have HW := hide (unhide HG _ w3 g1 cap1 hg ho)
      clear ho hg hw HG HA HLe hR
      go_wp2_with fail
      have hL1 : ∃ L1 : List KI, L1 = List.replicate (N + 1) ⟨1, 0, 0⟩ ++ [⟨8, ((N : Int) + 1 + 1 + m), 0⟩] := ⟨_, rfl⟩
      obtain ⟨L1, hL1⟩ := hL1
      rw [← hL1] at HW
      have hLl : Hd (L1.length = N + 1 + 1) := by unfold Hd; rw [hL1]; simp
      have HL1 := hide hL1
      clear hL1 hlt hk
      go_loopw [5, 7] (fun t5 t7 wr => ∃ (q : Nat) (a : Option Addr) (c : Nat), t7 = .int .i64 q ∧ t5 = .slice a (N + 1 + 1 + q) c ∧ q ≤ m ∧ Hd (RowK w wr (L1 ++ List.replicate q ⟨4, 0, 0⟩) (.slice a (N + 1 + 1 + q) c))) (fun _ t _ => m - (intOf t).toNat)
      case atStart => exact ⟨0, _, cap1, rfl, rfl, by omega, by simpa using HW⟩
      case round =>
        clear HW
        obtain ⟨q, a, c, rfl, rfl, hq, hR⟩ := hrel
        have HLe := hide (unhide HL wr (unhide hR).ext)
        by_cases hlt : q < m
        · have hap := (unhide hR).app (by rw [List.length_append, unhide hLl, List.length_replicate]) [⟨4, 0, 0⟩]
          have HA := hide hap.1
          have HG := hide hap.2
          clear hap
          generalize (L1 ++ List.replicate q (⟨4, 0, 0⟩ : KI)).flatMap kiC = XS at HA HG
          go_wp2_with (at_builtin; refine kapp_list rfl (.tmp 41) (.tmp 43) 24 rfl w.heap.size 23 i0 (.agg #[.int .i64 0, .int .i64 0, .int .i64 0]) 3 24 Try.underlying24 (unhide HI) (unhide Z0) (unhide Z1) (unhide Z2) rfl (by decide) a (N + 1 + 1 + q) c _ rfl (unhide HA _) ⟨wr.heap.size, 0, none⟩ 1 1 [.int .i64 4, .int .i64 0, .int .i64 0] rfl (by decide) rfl (k_new _ _ rfl _ _) (k_one_ki [⟨4, 0, 0⟩]) ?c1 ?c2 (unhide HLe _) ?_)
          case c1 => unfold maxLen; omega
          case c2 => omega
          intro g' cap' w3 ho hg hw
          have HW := hide (unhide HG _ w3 g' cap' hg ho)
          clear ho hg hw
          go_wp2_with fail
          go_roundw
          case rel => exact ⟨q + 1, _, cap', by go_num, rfl, by omega, by rw [List.replicate_succ', ← List.append_assoc]; exact HW⟩
          case measure => simp [intOf]; omega
        · obtain rfl : q = m := by omega
          have hap := (unhide hR).app (by rw [List.length_append, unhide hLl, List.length_replicate]) [⟨1, 0, 0⟩, ⟨10, 0, 0⟩]
          have HA := hide hap.1
          have HG := hide hap.2
          clear hap
          have hgr : L1 ++ List.replicate q (⟨4, 0, 0⟩ : KI) ++ [⟨1, 0, 0⟩, ⟨10, 0, 0⟩] = grC (N + 1) q := by
            rw [unhide HL1]
            unfold grC
            simp
          have hlen := grC_len (N + 1) q
          have HG2 : Hd (∀ ob w2 g' cap', (wr.alloc ob).grownBy w2 (Value.slice a (N + 1 + 1 + q) c).ownBlock → w2.ownsRow w.heap.size 23 3 (.slice (some ⟨g', 0, none⟩) (N + 1 + 1 + q + 2) cap') (N + 1 + 1 + q + 2) ((L1 ++ List.replicate q (⟨4, 0, 0⟩ : KI)).flatMap kiC ++ [.int .i64 1, .int .i64 0, .int .i64 0, .int .i64 10, .int .i64 0, .int .i64 0]) → RowK w w2 (grC (N + 1) q) (.slice (some ⟨g', 0, none⟩) (N + 1 + 1 + q + 2) cap')) := fun ob w2 g' cap' h1 h2 => by
            have := unhide HG ob w2 g' cap' h1 h2
            rw [hgr] at this
            exact this
          generalize (L1 ++ List.replicate q (⟨4, 0, 0⟩ : KI)).flatMap kiC = XS at HA HG2
          obtain ⟨qq, vv, hq1, hv1, hbad, hgood⟩ := grOk_gives (grOk_all (N + 1) q (by omega) (by omega) hm3)
          have HB := grC_b (N + 1) q (by omega) hm3
          have HH := hide (fun pa W => one_hgt (grC (N + 1) q) 300 qq (by omega) HB (by omega) hq1 pa W)
          have HV := hide (fun pa W => one_vrt (grC (N + 1) q) 300 vv (by omega) HB (by omega) hv1 pa W)
          have HO : Hd (∀ (g' cap' : Nat) (W : World), RepC W (In W) (some ⟨g', 0, none⟩) (grC (N + 1) q) → Calls Try.prog 18 #[.slice (some ⟨g', 0, none⟩) (N + 1 + 1 + q + 2) cap'] W fun e w' => ∃ pa, e = .returned (kpV pa 1 1 0) ∧ RepP w' (In w') pa [oneF (grC (N + 1) q)] ∧ Ext W w') := fun g' cap' W hr => by
            have := one_any (grC (N + 1) q) _ cap' W hr
            rw [hlen, show N + 1 + q + 3 = N + 1 + 1 + q + 2 by omega] at this
            exact this
          have HBad := hide hbad
          have HGood := hide hgood
          clear hbad hgood hq1 hv1 HB hlen hgr HG hlt hq
          by_cases hcase : 64 < N + 1 ∨ 0 < q
          · obtain ⟨e1, e2⟩ := unhide HBad hcase
            subst e1 e2
            simp only at HV
            rcases (show 64 < N + 1 ∨ (¬ 64 < N + 1 ∧ 0 < q) by omega) with hc1 | ⟨hc1, hc2⟩
            all_goals
              clear hcase
              go_wp2_with (at_builtin; refine kapp_list rfl (.tmp 45) (.tmp 48) 24 rfl w.heap.size 23 i0 (.agg #[.int .i64 0, .int .i64 0, .int .i64 0]) 3 24 Try.underlying24 (unhide HI) (unhide Z0) (unhide Z1) (unhide Z2) rfl (by decide) a (N + 1 + 1 + q) c _ rfl (unhide HA _) ⟨wr.heap.size, 0, none⟩ 2 2 [.int .i64 1, .int .i64 0, .int .i64 0, .int .i64 10, .int .i64 0, .int .i64 0] rfl (by decide) rfl (k_new _ _ rfl _ _) (k_one_ki [⟨1, 0, 0⟩, ⟨10, 0, 0⟩]) ?c1 ?c2 (unhide HLe _) ?_)
              case c1 => unfold maxLen; omega
              case c2 => omega
              intro g' cap' w3 ho hg hw
              have HW := hide (unhide HG2 _ w3 g' cap' hg ho)
              clear ho hg hw
              go_wp2_with (first
                | (have T1 := unhide HW; go_at_call 18; refine Calls.mono (unhide HO g' cap' _ T1.rep) ?_; rintro e w4 ⟨p4, rfl, r4, hw⟩; have R4 := hide r4; have W4 := hide (T1.on hw); clear r4 hw T1 HW)
                | (have T1 := unhide R4; go_at_call 17; refine Calls.mono (unhide HH p4 _ T1) ?_; rintro e w5 ⟨ha, hc, rfl, hz, _, hw⟩; have ZH := hide hz.inn; have W5 := hide ((unhide W4).on hw); clear hz hw T1 R4 W4)
                | (have T1 := unhide W5; go_at_call 18; refine Calls.mono (unhide HO g' cap' _ T1.rep) ?_; rintro e w6 ⟨p6, rfl, r6, hw⟩; have R6 := hide r6; have W6 := hide (T1.on hw); have ZH6 := hide ((unhide ZH).ext hw); clear r6 hw T1 W5)
                | (have T1 := unhide R6; go_at_call 19; refine Calls.mono (unhide HV p6 _ T1) ?_; rintro e w7 ⟨rfl, hw⟩; have W7 := hide ((unhide W6).ext.trans hw); clear hw T1 R6 W6)
                | (have T1 := unhide W7; go_at_call 9; refine Calls.mono (unhide HAw _) ?_; rintro e w8 ⟨rfl, hw⟩; have W8 := hide ((unhide W7).trans hw); clear hw T1))
              go_ret
              exact ⟨rfl, unhide W8⟩
          · obtain ⟨e1, e2, e3, e4, e5⟩ := unhide HGood hcase
            subst e2
            obtain ⟨hs, er⟩ := qq
            simp only at e1 e3 e4 e5
            subst e1
            simp only at HV
            have e4 : hs[N + 1]? = some ((N : Int) + 1) := by rw [e4]; simp
            have e5 : hs[N + 1 + 1]? = some (N : Int) := by rw [e5]; simp
            have E4 := hide e4
            have E5 := hide e5
            have hl1 : N + 1 < hs.length := by omega
            have hl2 : N + 1 + 1 < hs.length := by omega
            have hlq : ((hs.length : Int) == (N : Int) + 1 + 3) = true := by rw [beq_iff_eq]; omega
            have hvN : (((N + 1 : Nat) : Int)) = (N : Int) + 1 := by simp
            rw [hvN] at HV
            have hc1 : N + 1 ≤ 64 := by omega
            have hc2 : q = 0 := by omega
            have HC2 := hide hc2
            have hq0 : ¬ (0 : Int) < (q : Int) := by omega
            clear e3 e4 e5 hcase hc2 hvN
            go_wp2_with (at_builtin; refine kapp_list rfl (.tmp 45) (.tmp 48) 24 rfl w.heap.size 23 i0 (.agg #[.int .i64 0, .int .i64 0, .int .i64 0]) 3 24 Try.underlying24 (unhide HI) (unhide Z0) (unhide Z1) (unhide Z2) rfl (by decide) a (N + 1 + 1 + q) c _ rfl (unhide HA _) ⟨wr.heap.size, 0, none⟩ 2 2 [.int .i64 1, .int .i64 0, .int .i64 0, .int .i64 10, .int .i64 0, .int .i64 0] rfl (by decide) rfl (k_new _ _ rfl _ _) (k_one_ki [⟨1, 0, 0⟩, ⟨10, 0, 0⟩]) ?c1 ?c2 (unhide HLe _) ?_)
            case c1 => unfold maxLen; omega
            case c2 => omega
            intro g' cap' w3 ho hg hw
            have HW := hide (unhide HG2 _ w3 g' cap' hg ho)
            clear ho hg hw
            go_wp2_with (first
              | (have T1 := unhide HW; go_at_call 18; refine Calls.mono (unhide HO g' cap' _ T1.rep) ?_; rintro e w4 ⟨p4, rfl, r4, hw⟩; have R4 := hide r4; have W4 := hide (T1.on hw); clear r4 hw T1 HW)
              | (have T1 := unhide R4; go_at_call 17; refine Calls.mono (unhide HH p4 _ T1) ?_; rintro e w5 ⟨ha, hc, rfl, hz, _, hw⟩; have ZH := hide hz.inn; have W5 := hide ((unhide W4).on hw); clear hz hw T1 R4 W4)
              | (have T1 := unhide W5; go_at_call 18; refine Calls.mono (unhide HO g' cap' _ T1.rep) ?_; rintro e w6 ⟨p6, rfl, r6, hw⟩; have R6 := hide r6; have W6 := hide (T1.on hw); have ZH6 := hide ((unhide ZH).ext hw); clear r6 hw T1 W5)
              | (have T1 := unhide R6; go_at_call 19; refine Calls.mono (unhide HV p6 _ T1) ?_; rintro e w7 ⟨rfl, hw⟩; have W7 := hide ((unhide W6).ext.trans hw); obtain ⟨hb7, rfl, z1⟩ := repZ_at (unhide ZH6) (unhide E4); obtain ⟨hb8, hbe, z2⟩ := repZ_at (unhide ZH6) (unhide E5); injection hbe with hbe; injection hbe with hbe; subst hbe; have z1 := hw.cell z1; have z2 := hw.cell z2; clear hw T1 R6 W6)
              | (have T1 := unhide W7; go_at_call 9; refine Calls.mono (unhide HAw _) ?_; rintro e w8 ⟨rfl, hw⟩; have W8 := hide ((unhide W7).trans hw); clear hw T1))
            go_ret
            exact ⟨rfl, unhide W8⟩

end Go.Proofs.Ytggpehmljpanjaa
