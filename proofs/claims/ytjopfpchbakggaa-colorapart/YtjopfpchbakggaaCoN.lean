/- The walk of the law ColorApart. -/
import Derived.Test.YtjopfpchbakggaaCoM
set_option linter.unusedSimpArgs false
set_option linter.unusedVariables false
set_option maxRecDepth 10000
namespace Go.Proofs.Ytjopfpchbakggaa
open Go.RowKit

theorem max_if (a b : Nat) : Value.int .i64 (if a < b then (b : Int) else (a : Int)) = Value.int .i64 ((max a b : Nat) : Int) := by
  by_cases h : a < b
  · rw [if_pos h, Nat.max_eq_right (by omega)]
  · rw [if_neg h, Nat.max_eq_left (by omega)]

set_option maxHeartbeats 8000000 in
theorem apart_w (l : List T3) (n : Int) (a : Option Addr) (cap : Nat) (w : World) (hl : l.length ≤ 60) (hr : RepI w (In w) a (tpI l)) (HC : Hd CasIs) (HO : Hd OverIs) (HA : Hd AwkIs) : Calls Try.prog 5 #[.slice a l.length cap, .int .i64 n] w fun e w' => e = .returned (.bool true) ∧ Ext w w' := by
  obtain ⟨k, hk, hk15⟩ := mask_lt n 15 (by omega)
  have hk : bits .and .i64 n 15 = (k : Int) := hk
  have hl2 : ¬ 60 < (l.length : Int) := by omega
  have HRw := hide (fun (_ : Unit) => rows_w l a cap w (by omega) hr)
  obtain ⟨L, hL⟩ : ∃ L, L = ivsP l l.length := ⟨_, rfl⟩
  have hLl : L.length = l.length := by rw [hL, ivsP_len]
  have hG : IvGood L := by rw [hL]; exact ivsP_good l _ (by omega)
  rw [← hL, ← hLl] at HRw
  have H1 := hide (fun (W : World) (aa : Option Addr) (ac : Nat) (h : RepI W (In W) aa (tpI (ivT L))) => unhide HC L ((k : Int) + 1) aa ac W (by omega) hG (by omega) (by omega) h)
  rw [show ((k : Int) + 1).toNat = k + 1 by omega] at H1
  have hAns := cAsg_ans hG.ok (k + 1) (by omega)
  rw [← hLl]
  have hLb : L.length ≤ 60 := by omega
  rw [← hLl] at hl2
  obtain ⟨c, hc⟩ : ∃ c, c = cAsg L (k + 1) := ⟨_, rfl⟩
  rw [← hc] at H1 hAns
  obtain ⟨T, hT⟩ : ∃ T, T = plT L c.o := ⟨_, rfl⟩
  have hTl : T.length = L.length := by rw [hT, plT_len]
  rw [← hT] at H1
  have HT := hide hT
  have HAn := hide hAns
  have HOk := hide hG.ok
  clear hr hL hLl hG hl hc hT hAns
  go_enter Try.func5, Try.ntmps5
  go_wp2_with (first
    | (go_at_call 9; refine Calls.mono (unhide HRw ()) ?_; rintro e w1 ⟨aa, ac, ba, bc, rfl, hra, hrb, hx⟩; have RA := hide hra; have X1 := hide hx; clear hra hrb hx)
    | (go_at_call 6; refine Calls.mono (unhide H1 _ _ _ (unhide RA)) ?_; rintro e w2 ⟨pa, pc, rfl, hrp, hx⟩; have RP := hide hrp; have RA2 := hide ((unhide RA).ext hx); have X2 := hide ((unhide X1).trans hx); clear hrp hx))
  go_loopw [8, 9, 10] (fun t8 t9 t10 wr => ∃ (i : Nat), t10 = .int .i64 i ∧ t8 = .int .i64 (cntS T i : Int) ∧ t9 = .int .i64 (cMost L i : Int) ∧ i ≤ L.length ∧ Hd (Ext w2 wr)) (fun _ _ t10 _ => L.length - (intOf t10).toNat)
  case atStart => exact ⟨0, rfl, rfl, rfl, by omega, Ext.refl _⟩
  case round =>
    obtain ⟨i, rfl, rfl, rfl, hi, hX⟩ := hrel
    by_cases hlt : i < L.length
    · have hlt2 : (i : Int) < (L.length : Int) := by omega
      have hcb := cntS_le T i
      have hmb := cMost_bd L i
      have hk0 : ¬ (k : Int) + 1 ≤ -1 := by omega
      have hsi := (unhide HOk).e i hlt
      have hne : Nonempty (RGw wr) := ⟨⟨wr, Ext.refl _⟩⟩
      obtain ⟨ab, ao, rfl, _, a0⟩ := ((unhide RA2).ext (unhide hX)).at (tpI_at (ivT_at hlt)).1
      obtain ⟨ab', ao', e1, _, a1⟩ := ((unhide RA2).ext (unhide hX)).at (tpI_at (ivT_at hlt)).2.1
      injection e1 with e1; injection e1 with e1 e2; subst e1 e2
      obtain ⟨ab', ao', e1, _, a2⟩ := ((unhide RA2).ext (unhide hX)).at (tpI_at (ivT_at hlt)).2.2
      injection e1 with e1; injection e1 with e1 e2; subst e1 e2
      simp only [← Nat.add_assoc] at a0 a1 a2
      have va0 := fun y : RGw wr => y.h.cell a0
      have va1 := fun y : RGw wr => y.h.cell a1
      have va2 := fun y : RGw wr => y.h.cell a2
      rcases pl_each (unhide HAn) hlt with ⟨p, hTi, hpn, hoi⟩ | ⟨s, hTi, hoi⟩
      · as_aux_lemma =>
          rw [← unhide HT] at hTi
          have hrw : rwA T i = ((ivA L i).r, (p : Int), -1) := by unfold rwA; rw [hTi]; rfl
          have HCs : Hd (cntS T (i + 1) = cntS T i) := hide (by rw [cntS, hrw]; simp)
          obtain ⟨q0, q1, q2⟩ := tpI_at hTi
          obtain ⟨pb, po, rfl, _, x0⟩ := ((unhide RP).ext (unhide hX)).at q0
          obtain ⟨pb', po', e1, _, x1⟩ := ((unhide RP).ext (unhide hX)).at q1
          injection e1 with e1; injection e1 with e1 e2; subst e1 e2
          obtain ⟨pb', po', e1, _, x2⟩ := ((unhide RP).ext (unhide hX)).at q2
          injection e1 with e1; injection e1 with e1 e2; subst e1 e2
          simp only [← Nat.add_assoc] at x0 x1 x2
          have vx0 := fun y : RGw wr => y.h.cell x0
          have vx1 := fun y : RGw wr => y.h.cell x1
          have vx2 := fun y : RGw wr => y.h.cell x2
          have HTi := hide hTi
          have HOi := hide hoi
          have hp0 : (0 : Int) ≤ (p : Int) := by omega
          have hpk : ¬ (k : Int) + 1 ≤ (p : Int) := by omega
          clear hTi hrw q0 q1 q2 hoi
          go_wp2_with fail
          refine wp_region_rx (W := wr) (by kernel_rfl) (by kernel_rfl) (Ext.refl _) ?_
          repeat (go_big_quiet_step (fail))
          refine wpQuiet_nil ?_
          rintro w4 ⟨⟨_, hx4⟩, rfl⟩
          have X4 := hide hx4
          clear hx4
          have z2 := (unhide X4).cell x2
          go_wp2_with fail
          clear va0 va1 va2 vx0 vx1 vx2 z2
          go_loopw [11, 12] (fun t11 t12 wq => ∃ (j : Nat), t12 = .int .i64 j ∧ t11 = .int .i64 (cSame L i j : Int) ∧ j ≤ L.length ∧ Hd (Ext w4 wq)) (fun _ t12 _ => L.length - (intOf t12).toNat)
          case atStart => exact ⟨0, rfl, rfl, by omega, Ext.refl _⟩
          case round =>
            obtain ⟨j, rfl, rfl, hj, hY⟩ := hrel
            by_cases hjl : j < L.length
            · have hjl2 : (j : Int) < (L.length : Int) := by omega
              have hjb := cSame_le L i j
              have hsj := (unhide HOk).e j hjl
              have hne2 : Nonempty (RGw wr) := ⟨⟨wr, Ext.refl _⟩⟩
              have hZ := hide ((unhide hX).trans ((unhide X4).trans (unhide hY)))
              have hZ4 := hide ((unhide X4).trans (unhide hY))
              obtain ⟨ab', ao', e1, _, b0⟩ := ((unhide RA2).ext (unhide hZ)).at (tpI_at (ivT_at hjl)).1
              injection e1 with e1; injection e1 with e1 e2; subst e1 e2
              obtain ⟨ab', ao', e1, _, b1⟩ := ((unhide RA2).ext (unhide hZ)).at (tpI_at (ivT_at hjl)).2.1
              injection e1 with e1; injection e1 with e1 e2; subst e1 e2
              obtain ⟨ab', ao', e1, _, b2⟩ := ((unhide RA2).ext (unhide hZ)).at (tpI_at (ivT_at hjl)).2.2
              injection e1 with e1; injection e1 with e1 e2; subst e1 e2
              obtain ⟨tj, hTj⟩ : ∃ tj, T[j]? = some tj := ⟨_, List.getElem?_eq_getElem (by omega)⟩
              obtain ⟨pb', po', e1, _, y1⟩ := ((unhide RP).ext (unhide hZ)).at (tpI_at hTj).2.1
              injection e1 with e1; injection e1 with e1 e2; subst e1 e2
              obtain ⟨pb', po', e1, _, y2⟩ := ((unhide RP).ext (unhide hZ)).at (tpI_at hTj).2.2
              injection e1 with e1; injection e1 with e1 e2; subst e1 e2
              simp only [← Nat.add_assoc] at b0 b1 b2 y1 y2
              have va0 := fun y : RGw wr => y.h.cell ((unhide hZ4).cell a0)
              have va1 := fun y : RGw wr => y.h.cell ((unhide hZ4).cell a1)
              have va2 := fun y : RGw wr => y.h.cell ((unhide hZ4).cell a2)
              have vx1 := fun y : RGw wr => y.h.cell ((unhide hZ4).cell x1)
              have vx2 := fun y : RGw wr => y.h.cell ((unhide hZ4).cell x2)
              have vb0 := fun y : RGw wr => y.h.cell b0
              have vb1 := fun y : RGw wr => y.h.cell b1
              have vb2 := fun y : RGw wr => y.h.cell b2
              have vy1 := fun y : RGw wr => y.h.cell y1
              have vy2 := fun y : RGw wr => y.h.cell y2
              have HTj := hide hTj
              clear hTj
              by_cases hji : j = i
              · subst hji
                have h1 : (ivA L j).s ≤ (ivA L j).e := hsi
                have h2 : (ivA L j).s ≤ (ivA L j).e := hsi
                have h3 : (ivA L j).s ≤ (ivA L j).s := Int.le_refl _
                have hcs : cIs L j j = true := by unfold cIs; rw [decide_eq_true h3, decide_eq_true h1]; rfl
                have HSm : Hd (cSame L j (j + 1) = cSame L j j + 1) := hide (by rw [cSame, hcs]; rfl)
                have HOv : Hd (∀ W, Calls Try.prog 11 #[.agg #[.int .i64 (ivA L j).r, .int .i64 (ivA L j).s, .int .i64 (ivA L j).e], .agg #[.int .i64 (ivA L j).r, .int .i64 (ivA L j).s, .int .i64 (ivA L j).e]] W fun e w' => e = .returned (.bool true) ∧ Ext W w') := fun W => by
                  have h := unhide HO (ivA L j) (ivA L j) W hsi hsj
                  rw [decide_eq_true h1] at h
                  exact h
                clear hcs
                go_wp2_with fail
                refine wp_region_rx (W := wr) (by kernel_rfl) (by kernel_rfl) (Ext.refl _) ?_
                repeat (go_big_quiet_step (fail))
                refine wpQuiet_nil ?_
                rintro w5 ⟨⟨_, hx5⟩, rfl⟩
                have X5 := hide hx5
                clear hx5
                go_wp2_with fail
                refine wp_region_rx (W := wr) (by kernel_rfl) (by kernel_rfl) (unhide X5) ?_
                repeat (go_big_quiet_step ((go_at_call 11; exact Calls.rx_of _ _ (unhide HOv _))))
                refine wpQuiet_nil ?_
                rintro w6 ⟨⟨_, hx6⟩, rfl⟩
                have X6 := hide hx6
                clear hx6
                go_wp2_with fail
                refine wp_region_rx (W := wr) (by kernel_rfl) (by kernel_rfl) (unhide X6) ?_
                repeat (go_big_quiet_step (fail))
                refine wpQuiet_nil ?_
                rintro w7 ⟨⟨_, hx7⟩, rfl⟩
                have X7 := hide hx7
                clear hx7
                go_wp2_with fail
                refine wp_region_rx (W := wr) (by kernel_rfl) (by kernel_rfl) (unhide X7) ?_
                repeat (go_big_quiet_step (fail))
                refine wpQuiet_nil ?_
                rintro w8 ⟨⟨_, hx8⟩, rfl⟩
                have X8 := hide hx8
                clear hx8
                go_wp2_with fail
                go_roundw
                case rel => exact ⟨j + 1, by go_num, by rw [unhide HSm]; go_num, by omega, (unhide hY).trans (unhide X8)⟩
                case measure => simp [intOf]; omega
              · have hjn : ((j : Int) != (i : Int)) = true := by simp; omega
                have hjn2 : ¬ (j : Int) = (i : Int) := by omega
                by_cases h1 : (ivA L i).s ≤ (ivA L j).e
                · by_cases h2 : (ivA L j).s ≤ (ivA L i).e
                  · have hq := pl_phys (unhide HAn) hjl (fun e => hji e.symm) h1 h2 (unhide HOi) (by rw [← unhide HT]; exact unhide HTj)
                    have hq2 : ((p : Int) == tj.2.1) = false := by rw [beq_eq_false_iff_ne]; exact hq
                    by_cases h3 : (ivA L j).s ≤ (ivA L i).s
                    · have hd1 : decide ((ivA L i).s ≤ (ivA L j).e) = true := decide_eq_true h1
                      have hd2 : decide ((ivA L j).s ≤ (ivA L i).e) = true := decide_eq_true h2
                      have hd3 : decide ((ivA L j).s ≤ (ivA L i).s) = true := decide_eq_true h3
                      have hcs : cIs L i j = true := by unfold cIs; rw [decide_eq_true h3, decide_eq_true h1]; rfl
                      have HSm : Hd (cSame L i (j + 1) = cSame L i j + 1) := hide (by rw [cSame, hcs]; rfl)
                      have HOv : Hd (∀ W, Calls Try.prog 11 #[.agg #[.int .i64 (ivA L i).r, .int .i64 (ivA L i).s, .int .i64 (ivA L i).e], .agg #[.int .i64 (ivA L j).r, .int .i64 (ivA L j).s, .int .i64 (ivA L j).e]] W fun e w' => e = .returned (.bool true) ∧ Ext W w') := fun W => by
                        have h := unhide HO (ivA L i) (ivA L j) W hsi hsj
                        rw [decide_eq_true h1, decide_eq_true h2] at h
                        exact h
                      clear hcs
                      go_wp2_with fail
                      refine wp_region_rx (W := wr) (by kernel_rfl) (by kernel_rfl) (Ext.refl _) ?_
                      repeat (go_big_quiet_step (fail))
                      refine wpQuiet_nil ?_
                      rintro w5 ⟨⟨_, hx5⟩, rfl⟩
                      have X5 := hide hx5
                      clear hx5
                      go_wp2_with fail
                      refine wp_region_rx (W := wr) (by kernel_rfl) (by kernel_rfl) (unhide X5) ?_
                      repeat (go_big_quiet_step ((go_at_call 11; exact Calls.rx_of _ _ (unhide HOv _))))
                      refine wpQuiet_nil ?_
                      rintro w6 ⟨⟨_, hx6⟩, rfl⟩
                      have X6 := hide hx6
                      clear hx6
                      go_wp2_with fail
                      refine wp_region_rx (W := wr) (by kernel_rfl) (by kernel_rfl) (unhide X6) ?_
                      repeat (go_big_quiet_step (fail))
                      refine wpQuiet_nil ?_
                      rintro w7 ⟨⟨_, hx7⟩, rfl⟩
                      have X7 := hide hx7
                      clear hx7
                      go_wp2_with fail
                      refine wp_region_rx (W := wr) (by kernel_rfl) (by kernel_rfl) (unhide X7) ?_
                      repeat (go_big_quiet_step (fail))
                      refine wpQuiet_nil ?_
                      rintro w8 ⟨⟨_, hx8⟩, rfl⟩
                      have X8 := hide hx8
                      clear hx8
                      go_wp2_with fail
                      go_roundw
                      case rel => exact ⟨j + 1, by go_num, by rw [unhide HSm]; go_num, by omega, (unhide hY).trans (unhide X8)⟩
                      case measure => simp [intOf]; omega
                    · have hd1 : decide ((ivA L i).s ≤ (ivA L j).e) = true := decide_eq_true h1
                      have hd2 : decide ((ivA L j).s ≤ (ivA L i).e) = true := decide_eq_true h2
                      have hd3 : decide ((ivA L j).s ≤ (ivA L i).s) = false := decide_eq_false h3
                      have hcs : cIs L i j = false := by unfold cIs; rw [decide_eq_false h3]; rfl
                      have HSm : Hd (cSame L i (j + 1) = cSame L i j) := hide (by rw [cSame, hcs]; rfl)
                      have HOv : Hd (∀ W, Calls Try.prog 11 #[.agg #[.int .i64 (ivA L i).r, .int .i64 (ivA L i).s, .int .i64 (ivA L i).e], .agg #[.int .i64 (ivA L j).r, .int .i64 (ivA L j).s, .int .i64 (ivA L j).e]] W fun e w' => e = .returned (.bool true) ∧ Ext W w') := fun W => by
                        have h := unhide HO (ivA L i) (ivA L j) W hsi hsj
                        rw [decide_eq_true h1, decide_eq_true h2] at h
                        exact h
                      clear hcs
                      go_wp2_with fail
                      refine wp_region_rx (W := wr) (by kernel_rfl) (by kernel_rfl) (Ext.refl _) ?_
                      repeat (go_big_quiet_step (fail))
                      refine wpQuiet_nil ?_
                      rintro w5 ⟨⟨_, hx5⟩, rfl⟩
                      have X5 := hide hx5
                      clear hx5
                      go_wp2_with fail
                      refine wp_region_rx (W := wr) (by kernel_rfl) (by kernel_rfl) (unhide X5) ?_
                      repeat (go_big_quiet_step ((go_at_call 11; exact Calls.rx_of _ _ (unhide HOv _))))
                      refine wpQuiet_nil ?_
                      rintro w6 ⟨⟨_, hx6⟩, rfl⟩
                      have X6 := hide hx6
                      clear hx6
                      go_wp2_with fail
                      refine wp_region_rx (W := wr) (by kernel_rfl) (by kernel_rfl) (unhide X6) ?_
                      repeat (go_big_quiet_step (fail))
                      refine wpQuiet_nil ?_
                      rintro w7 ⟨⟨_, hx7⟩, rfl⟩
                      have X7 := hide hx7
                      clear hx7
                      go_wp2_with fail
                      refine wp_region_rx (W := wr) (by kernel_rfl) (by kernel_rfl) (unhide X7) ?_
                      repeat (go_big_quiet_step (fail))
                      refine wpQuiet_nil ?_
                      rintro w8 ⟨⟨_, hx8⟩, rfl⟩
                      have X8 := hide hx8
                      clear hx8
                      go_wp2_with fail
                      go_roundw
                      case rel => exact ⟨j + 1, by go_num, by rw [unhide HSm], by omega, (unhide hY).trans (unhide X8)⟩
                      case measure => simp [intOf]; omega
                  · have h3 : ¬ (ivA L j).s ≤ (ivA L i).s := by omega
                    have hd1 : decide ((ivA L i).s ≤ (ivA L j).e) = true := decide_eq_true h1
                    have hd2 : decide ((ivA L j).s ≤ (ivA L i).e) = false := decide_eq_false h2
                    have hd3 : decide ((ivA L j).s ≤ (ivA L i).s) = false := decide_eq_false h3
                    have hcs : cIs L i j = false := by unfold cIs; rw [decide_eq_false h3]; rfl
                    have HSm : Hd (cSame L i (j + 1) = cSame L i j) := hide (by rw [cSame, hcs]; rfl)
                    have HOv : Hd (∀ W, Calls Try.prog 11 #[.agg #[.int .i64 (ivA L i).r, .int .i64 (ivA L i).s, .int .i64 (ivA L i).e], .agg #[.int .i64 (ivA L j).r, .int .i64 (ivA L j).s, .int .i64 (ivA L j).e]] W fun e w' => e = .returned (.bool false) ∧ Ext W w') := fun W => by
                      have h := unhide HO (ivA L i) (ivA L j) W hsi hsj
                      rw [decide_eq_true h1, decide_eq_false h2] at h
                      exact h
                    clear hcs
                    go_wp2_with fail
                    refine wp_region_rx (W := wr) (by kernel_rfl) (by kernel_rfl) (Ext.refl _) ?_
                    repeat (go_big_quiet_step (fail))
                    refine wpQuiet_nil ?_
                    rintro w5 ⟨⟨_, hx5⟩, rfl⟩
                    have X5 := hide hx5
                    clear hx5
                    go_wp2_with fail
                    refine wp_region_rx (W := wr) (by kernel_rfl) (by kernel_rfl) (unhide X5) ?_
                    repeat (go_big_quiet_step ((go_at_call 11; exact Calls.rx_of _ _ (unhide HOv _))))
                    refine wpQuiet_nil ?_
                    rintro w6 ⟨⟨_, hx6⟩, rfl⟩
                    have X6 := hide hx6
                    clear hx6
                    go_wp2_with fail
                    refine wp_region_rx (W := wr) (by kernel_rfl) (by kernel_rfl) (unhide X6) ?_
                    repeat (go_big_quiet_step (fail))
                    refine wpQuiet_nil ?_
                    rintro w7 ⟨⟨_, hx7⟩, rfl⟩
                    have X7 := hide hx7
                    clear hx7
                    go_wp2_with fail
                    refine wp_region_rx (W := wr) (by kernel_rfl) (by kernel_rfl) (unhide X7) ?_
                    repeat (go_big_quiet_step (fail))
                    refine wpQuiet_nil ?_
                    rintro w8 ⟨⟨_, hx8⟩, rfl⟩
                    have X8 := hide hx8
                    clear hx8
                    go_wp2_with fail
                    go_roundw
                    case rel => exact ⟨j + 1, by go_num, by rw [unhide HSm], by omega, (unhide hY).trans (unhide X8)⟩
                    case measure => simp [intOf]; omega
                · have h2 : (ivA L j).s ≤ (ivA L i).e := by omega
                  have h3 : (ivA L j).s ≤ (ivA L i).s := by omega
                  have hd1 : decide ((ivA L i).s ≤ (ivA L j).e) = false := decide_eq_false h1
                  have hd2 : decide ((ivA L j).s ≤ (ivA L i).e) = true := decide_eq_true h2
                  have hd3 : decide ((ivA L j).s ≤ (ivA L i).s) = true := decide_eq_true h3
                  have hcs : cIs L i j = false := by unfold cIs; rw [decide_eq_false h1, Bool.and_false]
                  have HSm : Hd (cSame L i (j + 1) = cSame L i j) := hide (by rw [cSame, hcs]; rfl)
                  have HOv : Hd (∀ W, Calls Try.prog 11 #[.agg #[.int .i64 (ivA L i).r, .int .i64 (ivA L i).s, .int .i64 (ivA L i).e], .agg #[.int .i64 (ivA L j).r, .int .i64 (ivA L j).s, .int .i64 (ivA L j).e]] W fun e w' => e = .returned (.bool false) ∧ Ext W w') := fun W => by
                    have h := unhide HO (ivA L i) (ivA L j) W hsi hsj
                    rw [decide_eq_false h1] at h
                    exact h
                  clear hcs
                  go_wp2_with fail
                  refine wp_region_rx (W := wr) (by kernel_rfl) (by kernel_rfl) (Ext.refl _) ?_
                  repeat (go_big_quiet_step (fail))
                  refine wpQuiet_nil ?_
                  rintro w5 ⟨⟨_, hx5⟩, rfl⟩
                  have X5 := hide hx5
                  clear hx5
                  go_wp2_with fail
                  refine wp_region_rx (W := wr) (by kernel_rfl) (by kernel_rfl) (unhide X5) ?_
                  repeat (go_big_quiet_step ((go_at_call 11; exact Calls.rx_of _ _ (unhide HOv _))))
                  refine wpQuiet_nil ?_
                  rintro w6 ⟨⟨_, hx6⟩, rfl⟩
                  have X6 := hide hx6
                  clear hx6
                  go_wp2_with fail
                  refine wp_region_rx (W := wr) (by kernel_rfl) (by kernel_rfl) (unhide X6) ?_
                  repeat (go_big_quiet_step (fail))
                  refine wpQuiet_nil ?_
                  rintro w7 ⟨⟨_, hx7⟩, rfl⟩
                  have X7 := hide hx7
                  clear hx7
                  go_wp2_with fail
                  refine wp_region_rx (W := wr) (by kernel_rfl) (by kernel_rfl) (unhide X7) ?_
                  repeat (go_big_quiet_step (fail))
                  refine wpQuiet_nil ?_
                  rintro w8 ⟨⟨_, hx8⟩, rfl⟩
                  have X8 := hide hx8
                  clear hx8
                  go_wp2_with fail
                  go_roundw
                  case rel => exact ⟨j + 1, by go_num, by rw [unhide HSm], by omega, (unhide hY).trans (unhide X8)⟩
                  case measure => simp [intOf]; omega
            · have hje : j = L.length := by omega
              have hjl2 : ¬ (j : Int) < (L.length : Int) := by omega
              subst hje
              have hsb := cSame_le L i L.length
              have hmx : cMost L (i + 1) = max (cMost L i) (cSame L i L.length) := rfl
              have HMx := hide hmx
              clear hmx hjl hj
              go_wp2_with fail
              go_roundw
              case rel => exact ⟨i + 1, by go_num, by rw [unhide HCs], by rw [unhide HMx]; exact max_if _ _, by omega, (unhide hX).trans ((unhide X4).trans (unhide hY))⟩
              case measure => simp [intOf]; omega
      · as_aux_lemma =>
          rw [← unhide HT] at hTi
          have hrw : rwA T i = ((ivA L i).r, -1, (s : Int)) := by unfold rwA; rw [hTi]; rfl
          have HCs : Hd (cntS T (i + 1) = cntS T i + 1) := hide (by rw [cntS, hrw]; rw [if_pos (by show (0 : Int) ≤ (s : Int); omega)])
          obtain ⟨q0, q1, q2⟩ := tpI_at hTi
          obtain ⟨pb, po, rfl, _, x0⟩ := ((unhide RP).ext (unhide hX)).at q0
          obtain ⟨pb', po', e1, _, x1⟩ := ((unhide RP).ext (unhide hX)).at q1
          injection e1 with e1; injection e1 with e1 e2; subst e1 e2
          obtain ⟨pb', po', e1, _, x2⟩ := ((unhide RP).ext (unhide hX)).at q2
          injection e1 with e1; injection e1 with e1 e2; subst e1 e2
          simp only [← Nat.add_assoc] at x0 x1 x2
          have vx0 := fun y : RGw wr => y.h.cell x0
          have vx1 := fun y : RGw wr => y.h.cell x1
          have vx2 := fun y : RGw wr => y.h.cell x2
          have HTi := hide hTi
          have HOi := hide hoi
          have hs0 : (0 : Int) ≤ (s : Int) := by omega
          clear hTi hrw q0 q1 q2 hoi
          go_wp2_with fail
          refine wp_region_rx (W := wr) (by kernel_rfl) (by kernel_rfl) (Ext.refl _) ?_
          repeat (go_big_quiet_step (fail))
          refine wpQuiet_nil ?_
          rintro w4 ⟨⟨_, hx4⟩, rfl⟩
          have X4 := hide hx4
          clear hx4
          have z2 := (unhide X4).cell x2
          go_wp2_with fail
          clear va0 va1 va2 vx0 vx1 vx2 z2
          go_loopw [11, 12] (fun t11 t12 wq => ∃ (j : Nat), t12 = .int .i64 j ∧ t11 = .int .i64 (cSame L i j : Int) ∧ j ≤ L.length ∧ Hd (Ext w4 wq)) (fun _ t12 _ => L.length - (intOf t12).toNat)
          case atStart => exact ⟨0, rfl, rfl, by omega, Ext.refl _⟩
          case round =>
            obtain ⟨j, rfl, rfl, hj, hY⟩ := hrel
            by_cases hjl : j < L.length
            · have hjl2 : (j : Int) < (L.length : Int) := by omega
              have hjb := cSame_le L i j
              have hsj := (unhide HOk).e j hjl
              have hne2 : Nonempty (RGw wr) := ⟨⟨wr, Ext.refl _⟩⟩
              have hZ := hide ((unhide hX).trans ((unhide X4).trans (unhide hY)))
              have hZ4 := hide ((unhide X4).trans (unhide hY))
              obtain ⟨ab', ao', e1, _, b0⟩ := ((unhide RA2).ext (unhide hZ)).at (tpI_at (ivT_at hjl)).1
              injection e1 with e1; injection e1 with e1 e2; subst e1 e2
              obtain ⟨ab', ao', e1, _, b1⟩ := ((unhide RA2).ext (unhide hZ)).at (tpI_at (ivT_at hjl)).2.1
              injection e1 with e1; injection e1 with e1 e2; subst e1 e2
              obtain ⟨ab', ao', e1, _, b2⟩ := ((unhide RA2).ext (unhide hZ)).at (tpI_at (ivT_at hjl)).2.2
              injection e1 with e1; injection e1 with e1 e2; subst e1 e2
              obtain ⟨tj, hTj⟩ : ∃ tj, T[j]? = some tj := ⟨_, List.getElem?_eq_getElem (by omega)⟩
              obtain ⟨pb', po', e1, _, y1⟩ := ((unhide RP).ext (unhide hZ)).at (tpI_at hTj).2.1
              injection e1 with e1; injection e1 with e1 e2; subst e1 e2
              obtain ⟨pb', po', e1, _, y2⟩ := ((unhide RP).ext (unhide hZ)).at (tpI_at hTj).2.2
              injection e1 with e1; injection e1 with e1 e2; subst e1 e2
              simp only [← Nat.add_assoc] at b0 b1 b2 y1 y2
              have va0 := fun y : RGw wr => y.h.cell ((unhide hZ4).cell a0)
              have va1 := fun y : RGw wr => y.h.cell ((unhide hZ4).cell a1)
              have va2 := fun y : RGw wr => y.h.cell ((unhide hZ4).cell a2)
              have vx1 := fun y : RGw wr => y.h.cell ((unhide hZ4).cell x1)
              have vx2 := fun y : RGw wr => y.h.cell ((unhide hZ4).cell x2)
              have vb0 := fun y : RGw wr => y.h.cell b0
              have vb1 := fun y : RGw wr => y.h.cell b1
              have vb2 := fun y : RGw wr => y.h.cell b2
              have vy1 := fun y : RGw wr => y.h.cell y1
              have vy2 := fun y : RGw wr => y.h.cell y2
              have HTj := hide hTj
              clear hTj
              by_cases hji : j = i
              · subst hji
                have h1 : (ivA L j).s ≤ (ivA L j).e := hsi
                have h2 : (ivA L j).s ≤ (ivA L j).e := hsi
                have h3 : (ivA L j).s ≤ (ivA L j).s := Int.le_refl _
                have hcs : cIs L j j = true := by unfold cIs; rw [decide_eq_true h3, decide_eq_true h1]; rfl
                have HSm : Hd (cSame L j (j + 1) = cSame L j j + 1) := hide (by rw [cSame, hcs]; rfl)
                have HOv : Hd (∀ W, Calls Try.prog 11 #[.agg #[.int .i64 (ivA L j).r, .int .i64 (ivA L j).s, .int .i64 (ivA L j).e], .agg #[.int .i64 (ivA L j).r, .int .i64 (ivA L j).s, .int .i64 (ivA L j).e]] W fun e w' => e = .returned (.bool true) ∧ Ext W w') := fun W => by
                  have h := unhide HO (ivA L j) (ivA L j) W hsi hsj
                  rw [decide_eq_true h1] at h
                  exact h
                clear hcs
                go_wp2_with fail
                refine wp_region_rx (W := wr) (by kernel_rfl) (by kernel_rfl) (Ext.refl _) ?_
                repeat (go_big_quiet_step (fail))
                refine wpQuiet_nil ?_
                rintro w5 ⟨⟨_, hx5⟩, rfl⟩
                have X5 := hide hx5
                clear hx5
                go_wp2_with fail
                refine wp_region_rx (W := wr) (by kernel_rfl) (by kernel_rfl) (unhide X5) ?_
                repeat (go_big_quiet_step ((go_at_call 11; exact Calls.rx_of _ _ (unhide HOv _))))
                refine wpQuiet_nil ?_
                rintro w6 ⟨⟨_, hx6⟩, rfl⟩
                have X6 := hide hx6
                clear hx6
                go_wp2_with fail
                refine wp_region_rx (W := wr) (by kernel_rfl) (by kernel_rfl) (unhide X6) ?_
                repeat (go_big_quiet_step (fail))
                refine wpQuiet_nil ?_
                rintro w7 ⟨⟨_, hx7⟩, rfl⟩
                have X7 := hide hx7
                clear hx7
                go_wp2_with fail
                refine wp_region_rx (W := wr) (by kernel_rfl) (by kernel_rfl) (unhide X7) ?_
                repeat (go_big_quiet_step (fail))
                refine wpQuiet_nil ?_
                rintro w8 ⟨⟨_, hx8⟩, rfl⟩
                have X8 := hide hx8
                clear hx8
                go_wp2_with fail
                go_roundw
                case rel => exact ⟨j + 1, by go_num, by rw [unhide HSm]; go_num, by omega, (unhide hY).trans (unhide X8)⟩
                case measure => simp [intOf]; omega
              · have hjn : ((j : Int) != (i : Int)) = true := by simp; omega
                have hjn2 : ¬ (j : Int) = (i : Int) := by omega
                by_cases h1 : (ivA L i).s ≤ (ivA L j).e
                · by_cases h2 : (ivA L j).s ≤ (ivA L i).e
                  · have hq := pl_slot (unhide HAn) hjl (fun e => hji e.symm) (unhide HOi) (by rw [← unhide HT]; exact unhide HTj)
                    have hq2 : ((s : Int) == tj.2.2) = false := by rw [beq_eq_false_iff_ne]; exact hq
                    by_cases h3 : (ivA L j).s ≤ (ivA L i).s
                    · have hd1 : decide ((ivA L i).s ≤ (ivA L j).e) = true := decide_eq_true h1
                      have hd2 : decide ((ivA L j).s ≤ (ivA L i).e) = true := decide_eq_true h2
                      have hd3 : decide ((ivA L j).s ≤ (ivA L i).s) = true := decide_eq_true h3
                      have hcs : cIs L i j = true := by unfold cIs; rw [decide_eq_true h3, decide_eq_true h1]; rfl
                      have HSm : Hd (cSame L i (j + 1) = cSame L i j + 1) := hide (by rw [cSame, hcs]; rfl)
                      have HOv : Hd (∀ W, Calls Try.prog 11 #[.agg #[.int .i64 (ivA L i).r, .int .i64 (ivA L i).s, .int .i64 (ivA L i).e], .agg #[.int .i64 (ivA L j).r, .int .i64 (ivA L j).s, .int .i64 (ivA L j).e]] W fun e w' => e = .returned (.bool true) ∧ Ext W w') := fun W => by
                        have h := unhide HO (ivA L i) (ivA L j) W hsi hsj
                        rw [decide_eq_true h1, decide_eq_true h2] at h
                        exact h
                      clear hcs
                      go_wp2_with fail
                      refine wp_region_rx (W := wr) (by kernel_rfl) (by kernel_rfl) (Ext.refl _) ?_
                      repeat (go_big_quiet_step (fail))
                      refine wpQuiet_nil ?_
                      rintro w5 ⟨⟨_, hx5⟩, rfl⟩
                      have X5 := hide hx5
                      clear hx5
                      go_wp2_with fail
                      refine wp_region_rx (W := wr) (by kernel_rfl) (by kernel_rfl) (unhide X5) ?_
                      repeat (go_big_quiet_step ((go_at_call 11; exact Calls.rx_of _ _ (unhide HOv _))))
                      refine wpQuiet_nil ?_
                      rintro w6 ⟨⟨_, hx6⟩, rfl⟩
                      have X6 := hide hx6
                      clear hx6
                      go_wp2_with fail
                      refine wp_region_rx (W := wr) (by kernel_rfl) (by kernel_rfl) (unhide X6) ?_
                      repeat (go_big_quiet_step (fail))
                      refine wpQuiet_nil ?_
                      rintro w7 ⟨⟨_, hx7⟩, rfl⟩
                      have X7 := hide hx7
                      clear hx7
                      go_wp2_with fail
                      refine wp_region_rx (W := wr) (by kernel_rfl) (by kernel_rfl) (unhide X7) ?_
                      repeat (go_big_quiet_step (fail))
                      refine wpQuiet_nil ?_
                      rintro w8 ⟨⟨_, hx8⟩, rfl⟩
                      have X8 := hide hx8
                      clear hx8
                      go_wp2_with fail
                      go_roundw
                      case rel => exact ⟨j + 1, by go_num, by rw [unhide HSm]; go_num, by omega, (unhide hY).trans (unhide X8)⟩
                      case measure => simp [intOf]; omega
                    · have hd1 : decide ((ivA L i).s ≤ (ivA L j).e) = true := decide_eq_true h1
                      have hd2 : decide ((ivA L j).s ≤ (ivA L i).e) = true := decide_eq_true h2
                      have hd3 : decide ((ivA L j).s ≤ (ivA L i).s) = false := decide_eq_false h3
                      have hcs : cIs L i j = false := by unfold cIs; rw [decide_eq_false h3]; rfl
                      have HSm : Hd (cSame L i (j + 1) = cSame L i j) := hide (by rw [cSame, hcs]; rfl)
                      have HOv : Hd (∀ W, Calls Try.prog 11 #[.agg #[.int .i64 (ivA L i).r, .int .i64 (ivA L i).s, .int .i64 (ivA L i).e], .agg #[.int .i64 (ivA L j).r, .int .i64 (ivA L j).s, .int .i64 (ivA L j).e]] W fun e w' => e = .returned (.bool true) ∧ Ext W w') := fun W => by
                        have h := unhide HO (ivA L i) (ivA L j) W hsi hsj
                        rw [decide_eq_true h1, decide_eq_true h2] at h
                        exact h
                      clear hcs
                      go_wp2_with fail
                      refine wp_region_rx (W := wr) (by kernel_rfl) (by kernel_rfl) (Ext.refl _) ?_
                      repeat (go_big_quiet_step (fail))
                      refine wpQuiet_nil ?_
                      rintro w5 ⟨⟨_, hx5⟩, rfl⟩
                      have X5 := hide hx5
                      clear hx5
                      go_wp2_with fail
                      refine wp_region_rx (W := wr) (by kernel_rfl) (by kernel_rfl) (unhide X5) ?_
                      repeat (go_big_quiet_step ((go_at_call 11; exact Calls.rx_of _ _ (unhide HOv _))))
                      refine wpQuiet_nil ?_
                      rintro w6 ⟨⟨_, hx6⟩, rfl⟩
                      have X6 := hide hx6
                      clear hx6
                      go_wp2_with fail
                      refine wp_region_rx (W := wr) (by kernel_rfl) (by kernel_rfl) (unhide X6) ?_
                      repeat (go_big_quiet_step (fail))
                      refine wpQuiet_nil ?_
                      rintro w7 ⟨⟨_, hx7⟩, rfl⟩
                      have X7 := hide hx7
                      clear hx7
                      go_wp2_with fail
                      refine wp_region_rx (W := wr) (by kernel_rfl) (by kernel_rfl) (unhide X7) ?_
                      repeat (go_big_quiet_step (fail))
                      refine wpQuiet_nil ?_
                      rintro w8 ⟨⟨_, hx8⟩, rfl⟩
                      have X8 := hide hx8
                      clear hx8
                      go_wp2_with fail
                      go_roundw
                      case rel => exact ⟨j + 1, by go_num, by rw [unhide HSm], by omega, (unhide hY).trans (unhide X8)⟩
                      case measure => simp [intOf]; omega
                  · have h3 : ¬ (ivA L j).s ≤ (ivA L i).s := by omega
                    have hd1 : decide ((ivA L i).s ≤ (ivA L j).e) = true := decide_eq_true h1
                    have hd2 : decide ((ivA L j).s ≤ (ivA L i).e) = false := decide_eq_false h2
                    have hd3 : decide ((ivA L j).s ≤ (ivA L i).s) = false := decide_eq_false h3
                    have hcs : cIs L i j = false := by unfold cIs; rw [decide_eq_false h3]; rfl
                    have HSm : Hd (cSame L i (j + 1) = cSame L i j) := hide (by rw [cSame, hcs]; rfl)
                    have HOv : Hd (∀ W, Calls Try.prog 11 #[.agg #[.int .i64 (ivA L i).r, .int .i64 (ivA L i).s, .int .i64 (ivA L i).e], .agg #[.int .i64 (ivA L j).r, .int .i64 (ivA L j).s, .int .i64 (ivA L j).e]] W fun e w' => e = .returned (.bool false) ∧ Ext W w') := fun W => by
                      have h := unhide HO (ivA L i) (ivA L j) W hsi hsj
                      rw [decide_eq_true h1, decide_eq_false h2] at h
                      exact h
                    clear hcs
                    go_wp2_with fail
                    refine wp_region_rx (W := wr) (by kernel_rfl) (by kernel_rfl) (Ext.refl _) ?_
                    repeat (go_big_quiet_step (fail))
                    refine wpQuiet_nil ?_
                    rintro w5 ⟨⟨_, hx5⟩, rfl⟩
                    have X5 := hide hx5
                    clear hx5
                    go_wp2_with fail
                    refine wp_region_rx (W := wr) (by kernel_rfl) (by kernel_rfl) (unhide X5) ?_
                    repeat (go_big_quiet_step ((go_at_call 11; exact Calls.rx_of _ _ (unhide HOv _))))
                    refine wpQuiet_nil ?_
                    rintro w6 ⟨⟨_, hx6⟩, rfl⟩
                    have X6 := hide hx6
                    clear hx6
                    go_wp2_with fail
                    refine wp_region_rx (W := wr) (by kernel_rfl) (by kernel_rfl) (unhide X6) ?_
                    repeat (go_big_quiet_step (fail))
                    refine wpQuiet_nil ?_
                    rintro w7 ⟨⟨_, hx7⟩, rfl⟩
                    have X7 := hide hx7
                    clear hx7
                    go_wp2_with fail
                    refine wp_region_rx (W := wr) (by kernel_rfl) (by kernel_rfl) (unhide X7) ?_
                    repeat (go_big_quiet_step (fail))
                    refine wpQuiet_nil ?_
                    rintro w8 ⟨⟨_, hx8⟩, rfl⟩
                    have X8 := hide hx8
                    clear hx8
                    go_wp2_with fail
                    go_roundw
                    case rel => exact ⟨j + 1, by go_num, by rw [unhide HSm], by omega, (unhide hY).trans (unhide X8)⟩
                    case measure => simp [intOf]; omega
                · have h2 : (ivA L j).s ≤ (ivA L i).e := by omega
                  have h3 : (ivA L j).s ≤ (ivA L i).s := by omega
                  have hd1 : decide ((ivA L i).s ≤ (ivA L j).e) = false := decide_eq_false h1
                  have hd2 : decide ((ivA L j).s ≤ (ivA L i).e) = true := decide_eq_true h2
                  have hd3 : decide ((ivA L j).s ≤ (ivA L i).s) = true := decide_eq_true h3
                  have hcs : cIs L i j = false := by unfold cIs; rw [decide_eq_false h1, Bool.and_false]
                  have HSm : Hd (cSame L i (j + 1) = cSame L i j) := hide (by rw [cSame, hcs]; rfl)
                  have HOv : Hd (∀ W, Calls Try.prog 11 #[.agg #[.int .i64 (ivA L i).r, .int .i64 (ivA L i).s, .int .i64 (ivA L i).e], .agg #[.int .i64 (ivA L j).r, .int .i64 (ivA L j).s, .int .i64 (ivA L j).e]] W fun e w' => e = .returned (.bool false) ∧ Ext W w') := fun W => by
                    have h := unhide HO (ivA L i) (ivA L j) W hsi hsj
                    rw [decide_eq_false h1] at h
                    exact h
                  clear hcs
                  go_wp2_with fail
                  refine wp_region_rx (W := wr) (by kernel_rfl) (by kernel_rfl) (Ext.refl _) ?_
                  repeat (go_big_quiet_step (fail))
                  refine wpQuiet_nil ?_
                  rintro w5 ⟨⟨_, hx5⟩, rfl⟩
                  have X5 := hide hx5
                  clear hx5
                  go_wp2_with fail
                  refine wp_region_rx (W := wr) (by kernel_rfl) (by kernel_rfl) (unhide X5) ?_
                  repeat (go_big_quiet_step ((go_at_call 11; exact Calls.rx_of _ _ (unhide HOv _))))
                  refine wpQuiet_nil ?_
                  rintro w6 ⟨⟨_, hx6⟩, rfl⟩
                  have X6 := hide hx6
                  clear hx6
                  go_wp2_with fail
                  refine wp_region_rx (W := wr) (by kernel_rfl) (by kernel_rfl) (unhide X6) ?_
                  repeat (go_big_quiet_step (fail))
                  refine wpQuiet_nil ?_
                  rintro w7 ⟨⟨_, hx7⟩, rfl⟩
                  have X7 := hide hx7
                  clear hx7
                  go_wp2_with fail
                  refine wp_region_rx (W := wr) (by kernel_rfl) (by kernel_rfl) (unhide X7) ?_
                  repeat (go_big_quiet_step (fail))
                  refine wpQuiet_nil ?_
                  rintro w8 ⟨⟨_, hx8⟩, rfl⟩
                  have X8 := hide hx8
                  clear hx8
                  go_wp2_with fail
                  go_roundw
                  case rel => exact ⟨j + 1, by go_num, by rw [unhide HSm], by omega, (unhide hY).trans (unhide X8)⟩
                  case measure => simp [intOf]; omega
            · have hje : j = L.length := by omega
              have hjl2 : ¬ (j : Int) < (L.length : Int) := by omega
              subst hje
              have hsb := cSame_le L i L.length
              have hmx : cMost L (i + 1) = max (cMost L i) (cSame L i L.length) := rfl
              have HMx := hide hmx
              clear hmx hjl hj
              go_wp2_with fail
              go_roundw
              case rel => exact ⟨i + 1, by go_num, by rw [unhide HCs]; go_num, by rw [unhide HMx]; exact max_if _ _, by omega, (unhide hX).trans ((unhide X4).trans (unhide hY))⟩
              case measure => simp [intOf]; omega
    · have hie : i = L.length := by omega
      have hlt2 : ¬ (i : Int) < (L.length : Int) := by omega
      subst hie
      clear hlt hi
      have hcb := cntS_le T L.length
      have hmb := cMost_bd L L.length
      have hy := most_yes (unhide HAn)
      have hn := most_no (unhide HAn)
      rw [← unhide HT] at hy hn
      by_cases hz : cntS T L.length = 0
      · have hm := hn hz
        have hm2 : (cMost L L.length : Int) ≤ (k : Int) + 1 := by omega
        have hm3 : ¬ (k : Int) + 1 < (cMost L L.length : Int) := by omega
        have hz2 : ((cntS T L.length : Int) == 0) = true := by simp; omega
        rw [hz]
        clear hy hn
        go_wp2_with (go_at_call 8; refine Calls.mono (unhide HA _) ?_; rintro e w6 ⟨rfl, hx⟩; have X6 := hide (((unhide X2).trans (unhide hX)).trans hx); clear hx)
        go_ret
        exact ⟨rfl, unhide X6⟩
      · have hm := hy (by omega)
        have hm2 : ¬ (cMost L L.length : Int) ≤ (k : Int) + 1 := by omega
        have hm3 : (k : Int) + 1 < (cMost L L.length : Int) := by omega
        have hz2 : ((cntS T L.length : Int) == 0) = false := by rw [beq_eq_false_iff_ne]; omega
        have hz3 : (0 : Int) < (cntS T L.length : Int) := by omega
        clear hy hn
        go_wp2_with (go_at_call 8; refine Calls.mono (unhide HA _) ?_; rintro e w6 ⟨rfl, hx⟩; have X6 := hide (((unhide X2).trans (unhide hX)).trans hx); clear hx)
        go_ret
        exact ⟨rfl, unhide X6⟩

end Go.Proofs.Ytjopfpchbakggaa
