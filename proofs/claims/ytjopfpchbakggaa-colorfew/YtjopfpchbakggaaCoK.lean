/- The walk of the law ColorFew. -/
import Derived.Test.YtjopfpchbakggaaCoG
import Derived.Test.YtjopfpchbakggaaCoKr
import Derived.StillTailTactics
set_option linter.unusedSimpArgs false
set_option linter.unusedVariables false
set_option maxRecDepth 10000
namespace Go.Proofs.Ytjopfpchbakggaa
open Go.RowKit

theorem own_setC {w : World} {base : Nat} {t : TypeId} {size g n cap : Nat} {xs : List Value} (h : w.ownsRow base t size (.slice (some ⟨g, 0, none⟩) n cap) n xs) (i : Nat) (v : Value) : (w.setCell ⟨g, i, none⟩ v).ownsRow base t size (.slice (some ⟨g, 0, none⟩) n cap) n (xs.set i v) := by
  obtain ⟨h1, h2⟩ := h
  refine ⟨by simpa using h1, ?_⟩
  rcases h2 with ⟨e, h0⟩ | ⟨g2, cap2, cur, e, hb, hg, hn, hcm, hcs, ht⟩
  · cases e
  · injection e with e1 e2 e3
    injection e1 with e1
    injection e1 with e1
    subst e1 e3
    refine Or.inr ⟨g, cap, cur.setIfInBounds i v, rfl, hb, k_row_set hg i v, hn, hcm, by simpa using hcs, ?_⟩
    rw [← ht, Array.toList_setIfInBounds, List.take_set]
theorem own_extC {w w' : World} {base : Nat} {e : TypeId} {size n : Nat} {v : Value} {xs : List Value} (h : w.ownsRow base e size v n xs) (k : Ext w w') : w'.ownsRow base e size v n xs := by
  obtain ⟨h1, h2⟩ := h
  refine ⟨h1, ?_⟩
  rcases h2 with h2 | ⟨b, cap, cur, q1, q2, q3, q4⟩
  · exact Or.inl h2
  · subst q1
    exact Or.inr ⟨b, cap, cur, rfl, q2, k.row q3, q4⟩
/-- All three numbers of one are set. -/
theorem own_set3 {w : World} {base : Nat} {t : TypeId} {g n cap : Nat} {T : List T3} (h : w.ownsRow base t 3 (.slice (some ⟨g, 0, none⟩) n cap) n (tpV T)) {k : Nat} (hk : k < T.length) (a b c : Int) : (((w.setCell ⟨g, k * 3, none⟩ (.int .i64 a)).setCell ⟨g, k * 3 + 1, none⟩ (.int .i64 b)).setCell ⟨g, k * 3 + 2, none⟩ (.int .i64 c)).ownsRow base t 3 (.slice (some ⟨g, 0, none⟩) n cap) n (tpV (T.set k (a, b, c))) := by
  have x := own_setC (own_setC (own_setC h (k * 3) (.int .i64 a)) (k * 3 + 1) (.int .i64 b)) (k * 3 + 2) (.int .i64 c)
  have h1 : (T.set k (a, T[k].2.1, T[k].2.2))[k]? = some (a, T[k].2.1, T[k].2.2) := by rw [List.getElem?_set_self hk]
  have h2 : (T.set k (a, b, T[k].2.2))[k]? = some (a, b, T[k].2.2) := by rw [List.getElem?_set_self hk]
  rw [tpV_set0 a (List.getElem?_eq_getElem hk), tpV_set1 b h1, List.set_set, tpV_set2 c h2, List.set_set] at x
  exact x
theorem own_cells {w : World} {base n : Nat} {e : TypeId} {a : Option Addr} {c : Nat} {T : List T3} (h : w.ownsRow base e 3 (.slice a n c) n (tpV T)) (hn : 0 < T.length) : ∃ g, a = some ⟨g, 0, none⟩ ∧ base ≤ g ∧ (∀ i, w.frozen? ⟨g, i, none⟩ = false) ∧ ∀ (j : Nat) (u : Value), (tpV T)[j]? = some u → w.cell? ⟨g, j, none⟩ = some u := by
  rcases id h.2 with ⟨e0, h0⟩ | ⟨g, cap, cur, e0, hb, hg, _⟩
  · exfalso
    have h1 := h.1
    rw [h0, tpV_len] at h1
    omega
  · injection e0 with e1 e2 e3
    subst e1
    refine ⟨g, rfl, hb, k_rowF hg, fun j u hu => ?_⟩
    have := h.cells (g := g) rfl j u hu
    rw [k_add] at this
    exact this
theorem fw_snoc (M q : Nat) : tpV (ivT ((List.range (q + 1)).map (fw M))) = tpV (ivT ((List.range q).map (fw M))) ++ [Value.int .i64 (q : Int), Value.int .i64 (fwS M q : Int), Value.int .i64 (fwE M q : Int)] := by
  unfold ivT tpV
  rw [List.range_succ, List.map_append, List.map_append, List.flatMap_append]
  rfl
theorem fw_row {M i k : Nat} (hk : k < M) : fwS M (i * M + k) = 10 * i + k % 3 ∧ fwE M (i * M + k) = 10 * i + 5 + k % 4 := by
  have h1 : (i * M + k) / M = i := by
    rw [Nat.mul_comm, Nat.mul_add_div (by omega), Nat.div_eq_of_lt hk]
    omega
  have h2 : (i * M + k) % M = k := by
    rw [Nat.mul_comm, Nat.mul_add_mod, Nat.mod_eq_of_lt hk]
  unfold fwS fwE
  rw [h1, h2]
  exact ⟨rfl, rfl⟩
theorem ivT_map (p : List Nat) (M : Nat) {k r : Nat} (h : p[k]? = some r) : (ivT (p.map (fw M)))[k]? = some ((r : Int), (fwS M r : Int), (fwE M r : Int)) := by
  unfold ivT
  rw [List.getElem?_map, List.getElem?_map, h]
  rfl
theorem ivT_set (p : List Nat) (M k r : Nat) : (ivT (p.map (fw M))).set k ((r : Int), (fwS M r : Int), (fwE M r : Int)) = ivT ((p.set k r).map (fw M)) := by
  unfold ivT
  rw [List.map_set, List.map_set]
  rfl
theorem no_slot {L : List Iv} {n : Nat} {c : CS} (A : CAns L n c) (h0 : c.n = 0) {i t : Nat} (ho : c.o[i]? = some (none, some t)) : False := by
  have h1 := A.cnt
  rw [h0] at h1
  exact List.filter_eq_nil_iff.1 (List.length_eq_zero_iff.1 h1) _ (List.mem_of_getElem? ho) rfl

set_option maxHeartbeats 4000000 in
theorem few_w (a0 a1 : Int) (w : World) (HC : Hd CasIs) (HS : Hd SlotsIs) (HA : Hd AwkIs) : Calls Try.prog 3 #[.int .i64 a0, .int .i64 a1] w fun e w' => e = .returned (.bool true) ∧ Ext w w' := by
  obtain ⟨x, hx, hx15⟩ := mask_lt a0 15 (by omega)
  have hx : bits .and .i64 a0 15 = (x : Int) := hx
  obtain ⟨y, hy, hy15⟩ := mask_lt a1 15 (by omega)
  have hy : bits .and .i64 a1 15 = (y : Int) := hy
  obtain ⟨M, hM⟩ : ∃ M, M = y + 1 := ⟨_, rfl⟩
  obtain ⟨i0, hi, hz0, hz1, hz2⟩ := k_infoC
  have HI := hide hi
  have Z0 := hide hz0
  have Z1 := hide hz1
  have Z2 := hide hz2
  have HM := hide hM
  clear hi hz0 hz1 hz2 hM
  go_enter Try.func3, Try.ntmps3
  go_wp2_with fail
  go_loopw [5, 6] (fun t5 t6 wr => ∃ (i : Nat) (aa : Option Addr) (ac : Nat), t6 = .int .i64 i ∧ i ≤ x + 1 ∧ t5 = .slice aa (i * M) ac ∧ Hd (Ext w wr ∧ wr.ownsRow w.heap.size 24 3 (.slice aa (i * M) ac) (i * M) (tpV (ivT ((List.range (i * M)).map (fw M)))))) (fun _ t6 _ => x + 1 - (intOf t6).toNat)
  case atStart => exact ⟨0, none, 0, rfl, by omega, by simp, by rw [Nat.zero_mul]; exact ⟨Ext.refl _, World.ownsRow_nil _ _ _ _⟩⟩
  case round =>
    obtain ⟨i, aa, ac, rfl, hix, rfl, hS⟩ := hrel
    by_cases hlt : i < x + 1
    · have hlt2 : (i : Int) < (x : Int) + 1 := by omega
      obtain ⟨P, hP⟩ : ∃ P, P = i * M := ⟨_, rfl⟩
      have hPb : P ≤ 256 := by
        rw [hP]
        have := unhide HM
        exact Nat.le_trans (Nat.mul_le_mul (show i ≤ 16 by omega) (show M ≤ 16 by omega)) (by decide)
      rw [← hP] at hS ⊢
      have hmul : wrap64 ((i : Int) * ((y : Int) + 1)) = (P : Int) := by
        have h1 : (i : Int) * ((y : Int) + 1) = (P : Int) := by
          rw [hP, unhide HM, Int.natCast_mul]
          rfl
        rw [h1]
        unfold wrap64
        omega
      have HP := hide hP
      clear hP
      go_wp2_with fail
      go_loopw [5, 7] (fun t5 t7 wq => ∃ (k : Nat) (aa : Option Addr) (ac : Nat), t7 = .int .i64 k ∧ k ≤ y + 1 ∧ t5 = .slice aa (P + k) ac ∧ Hd (Ext w wq ∧ wq.ownsRow w.heap.size 24 3 (.slice aa (P + k) ac) (P + k) (tpV (ivT ((List.range (P + k)).map (fw M)))))) (fun _ t7 _ => y + 1 - (intOf t7).toNat)
      case atStart => exact ⟨0, aa, ac, rfl, by omega, rfl, hS⟩
      case round =>
        clear hS
        obtain ⟨k, aa, ac, rfl, hky, rfl, hS⟩ := hrel
        by_cases hkl : k < y + 1
        · have hkl2 : (k : Int) < (y : Int) + 1 := by omega
          obtain ⟨f1, f2⟩ := fw_row (i := i) (show k < M by have := unhide HM; omega)
          have hr3 : (k : Int).tmod 3 = ((k % 3 : Nat) : Int) := (Int.ofNat_tmod k 3).symm
          have hr4 : (k : Int).tmod 4 = ((k % 4 : Nat) : Int) := (Int.ofNat_tmod k 4).symm
          have b3 : k % 3 < 3 := Nat.mod_lt _ (by decide)
          have b4 : k % 4 < 4 := Nat.mod_lt _ (by decide)
          generalize k % 3 = k3 at *
          generalize k % 4 = k4 at *
          have hO1 := (unhide hS).2
          have HO := hide (fun ob => hO1.alloc ob)
          have HX := hide (unhide hS).1
          have hsn := fw_snoc M (P + k)
          rw [← unhide HP] at f1 f2
          rw [f1, f2] at hsn
          have hsn2 : tpV (ivT ((List.range (P + k + 1)).map (fw M))) = tpV (ivT ((List.range (P + k)).map (fw M))) ++ [Value.int .i64 ((P : Int) + (k : Int)), Value.int .i64 (10 * (i : Int) + (k3 : Int)), Value.int .i64 (10 * (i : Int) + 5 + (k4 : Int))] := by
            rw [hsn]
            congr 4 <;> first | omega | (congr 1; omega) | skip
          have HSn := hide hsn2
          clear hS hO1 hsn hsn2 f1 f2
          go_wp2_with (at_builtin; refine kapp_list rfl (.tmp 29) (.tmp 47) 22 rfl w.heap.size 24 i0 (.agg #[.int .i64 0, .int .i64 0, .int .i64 0]) 3 24 Try.underlying22 (unhide HI) (unhide Z0) (unhide Z1) (unhide Z2) rfl (by decide) aa (P + k) ac _ rfl (unhide HO _) ⟨wr.heap.size, 0, none⟩ 1 1 [.int .i64 ((P : Int) + (k : Int)), .int .i64 (10 * (i : Int) + (k3 : Int)), .int .i64 (10 * (i : Int) + 5 + (k4 : Int))] rfl (by decide) rfl (k_new _ _ rfl _ _) (one_tp _ _ _) ?c1 ?c2 ?c3 ?_)
          case c1 => unfold maxLen; omega
          case c2 => omega
          case c3 => have := (unhide HX).size; have := (Ext.alloc wr (.cells #[.int .i64 ((P : Int) + (k : Int)), .int .i64 (10 * (i : Int) + (k3 : Int)), .int .i64 (10 * (i : Int) + 5 + (k4 : Int))] 24)).size; omega
          intro g' cap' w3 ho hg hw
          rw [← unhide HSn] at ho
          have X3 := hide (grown_ext ((unhide HX).trans (Ext.alloc _ _)) (unhide HO _) hg)
          have HO3 := hide ho
          clear ho hg hw
          go_wp2_with fail
          go_roundw
          case rel => exact ⟨k + 1, _, _, by go_num, by omega, rfl, unhide X3, unhide HO3⟩
          case measure => simp [intOf]; omega
        · have hkl2 : ¬ (k : Int) < (y : Int) + 1 := by omega
          have hke : P + k = (i + 1) * M := by
            have := unhide HP
            have := unhide HM
            rw [Nat.add_mul, Nat.one_mul]
            omega
          have HKe := hide hke
          clear hkl hky hke
          go_wp2_with fail
          go_roundw
          case rel => exact ⟨i + 1, aa, ac, by go_num, by omega, by rw [unhide HKe], hide (by rw [← unhide HKe]; exact unhide hS)⟩
          case measure => simp [intOf]; omega
    · have hlt2 : ¬ (i : Int) < (x : Int) + 1 := by omega
      obtain ⟨N, hN⟩ : ∃ N, N = i * M := ⟨_, rfl⟩
      have hNb : M ≤ N ∧ N ≤ 256 := by
        have h1 := unhide HM
        have hi1 : i = x + 1 := by omega
        rw [hN, hi1]
        exact ⟨Nat.le_mul_of_pos_left M (by omega), Nat.le_trans (Nat.mul_le_mul (show x + 1 ≤ 16 by omega) (show M ≤ 16 by omega)) (by decide)⟩
      rw [← hN] at hS ⊢
      clear hN hlt hix
      have hM1 : 1 ≤ M := by have := unhide HM; omega
      obtain ⟨g, hg, hgb, _, _⟩ := own_cells (unhide hS).2 (by unfold ivT; simp; omega)
      subst hg
      go_wp2_with fail
      go_loopw [8] (fun t8 wq => ∃ (j : Nat), t8 = .int .i64 j ∧ j ≤ N ∧ Hd (Ext w wq ∧ wq.ownsRow w.heap.size 24 3 (.slice (some ⟨g, 0, none⟩) N ac) N (tpV (ivT ((bAll M (List.range N) j).map (fw M)))))) (fun t8 _ => N - (intOf t8).toNat)
      case atStart => exact ⟨0, rfl, by omega, hS⟩
      case round =>
        clear hS
        obtain ⟨j, rfl, hj, hS⟩ := hrel
        by_cases hjN : j < N
        · have hjN2 : (j : Int) < (N : Int) := by omega
          have hql : (bAll M (List.range N) j).length = N := by rw [bAll_len, List.length_range]
          have hnx : bAll M (List.range N) (j + 1) = bPs M (bAll M (List.range N) j) (N - 1) := by rw [bAll, hql]
          have HNx := hide hnx
          generalize bAll M (List.range N) j = q at *
          clear hnx
          go_wp2_with fail
          go_loopw [9] (fun t9 wq => ∃ (t K : Nat), t9 = .int .i64 (K : Int) ∧ K + t = N - 1 ∧ Hd (Ext w wq ∧ wq.ownsRow w.heap.size 24 3 (.slice (some ⟨g, 0, none⟩) N ac) N (tpV (ivT ((bPs M q t).map (fw M)))))) (fun t9 _ => (intOf t9).toNat)
          case atStart => exact ⟨0, N - 1, by go_num, by omega, hS⟩
          case round =>
            clear hS
            obtain ⟨t, K', rfl, hKt, hS⟩ := hrel
            cases K' with
            | succ K =>
              have hpl : (bPs M q t).length = N := by rw [bPs_len, hql]
              have hnx : bPs M q (t + 1) = bSw M (bPs M q t) K := by rw [bPs, hql, show N - 2 - t = K by omega]
              have HNp := hide hnx
              generalize bPs M q t = p at *
              clear hnx
              obtain ⟨a, ha⟩ : ∃ a, p[K]? = some a := ⟨_, List.getElem?_eq_getElem (by omega)⟩
              obtain ⟨b, hb⟩ : ∃ b, p[K + 1]? = some b := ⟨_, List.getElem?_eq_getElem (by omega)⟩
              have hsw : bSw M p K = if fwS M b < fwS M a then (p.set K b).set (K + 1) a else p := by unfold bSw; rw [ha, hb]
              have HSw := hide hsw
              have hKN : (K : Int) < (N : Int) := by omega
              have hKN2 : (K : Int) + 1 < (N : Int) := by omega
              have hK0 : (0 : Int) < (K : Int) + 1 := by omega
              have hne : Nonempty (RGw wr) := ⟨⟨wr, Ext.refl _⟩⟩
              obtain ⟨g', eg, _, cf, hc⟩ := own_cells (unhide hS).2 (by unfold ivT; simp; omega)
              injection eg with eg; injection eg with eg; subst eg
              obtain ⟨a0, a1, a2⟩ := tpV_at (ivT_map p M ha)
              obtain ⟨b0, b1, b2⟩ := tpV_at (ivT_map p M hb)
              have c0 := hc _ _ a0
              have c1 := hc _ _ a1
              have c2 := hc _ _ a2
              have d0 := hc _ _ b0
              have d1 := hc _ _ b1
              have d2 := hc _ _ b2
              have v1 := fun y : RGw wr => y.h.cell c1
              have u1 := fun y : RGw wr => y.h.cell d1
              clear a0 a1 a2 b0 b1 b2 hc hsw
              go_wp2_with fail
              refine wp_region_rx (W := wr) (by kernel_rfl) (by kernel_rfl) (Ext.refl _) ?_
              repeat (go_big_quiet_step (fail))
              refine wpQuiet_nil ?_
              rintro w4 ⟨⟨_, hx4⟩, rfl⟩
              have S4 := hide (show Ext w w4 ∧ w4.ownsRow w.heap.size 24 3 (.slice (some ⟨g, 0, none⟩) N ac) N (tpV (ivT (p.map (fw M)))) from ⟨(unhide hS).1.trans hx4, own_extC (unhide hS).2 hx4⟩)
              have c0 := hx4.cell c0
              have c1 := hx4.cell c1
              have c2 := hx4.cell c2
              have d0 := hx4.cell d0
              have d1 := hx4.cell d1
              have d2 := hx4.cell d2
              obtain ⟨g', eg, _, cf, hc⟩ := own_cells (unhide S4).2 (by unfold ivT; simp; omega)
              injection eg with eg; injection eg with eg; subst eg
              clear v1 u1 hx4 hS hc
              by_cases hlt : fwS M b < fwS M a
              · have hlt2 : (fwS M b : Int) < (fwS M a : Int) := by omega
                have hpk : K < p.length := by omega
                have SS := own_set3 (own_set3 (unhide S4).2 (k := K) (by unfold ivT; simp; omega) (b : Int) (fwS M b : Int) (fwE M b : Int)) (k := K + 1) (by unfold ivT; simp; omega) (a : Int) (fwS M a : Int) (fwE M a : Int)
                rw [ivT_set, ivT_set] at SS
                obtain ⟨W4, hW4⟩ : ∃ W4, W4 = ((((((w4.setCell ⟨g, K * 3, none⟩ (.int .i64 (b : Int))).setCell ⟨g, K * 3 + 1, none⟩ (.int .i64 (fwS M b : Int))).setCell ⟨g, K * 3 + 2, none⟩ (.int .i64 (fwE M b : Int))).setCell ⟨g, (K + 1) * 3, none⟩ (.int .i64 (a : Int))).setCell ⟨g, (K + 1) * 3 + 1, none⟩ (.int .i64 (fwS M a : Int))).setCell ⟨g, (K + 1) * 3 + 2, none⟩ (.int .i64 (fwE M a : Int))).drew := ⟨_, rfl⟩
                have HSS := hide (show Ext w W4 ∧ W4.ownsRow w.heap.size 24 3 (.slice (some ⟨g, 0, none⟩) N ac) N (tpV (ivT (((p.set K b).set (K + 1) a).map (fw M)))) by
                  rw [hW4]
                  exact ⟨(((((((unhide S4).1.set hgb _).set hgb _).set hgb _).set hgb _).set hgb _).set hgb _).drew, own_extC SS (Ext.drew (Ext.refl _))⟩)
                have HW4 := hide hW4
                have hsw2 := unhide HSw
                rw [if_pos hlt] at hsw2
                have HSw2 := hide hsw2
                have hK00 : (0 : Int) ≤ (K : Int) + 1 := by omega
                have hKw : IntKind.wrap .i64 (K : Int) = (K : Int) := by rw [IntKind.wrap_i64]; omega
                clear SS hsw2 ha hb hW4
                go_wp2_with fail
                refine kx_use (W := w4.drew) (W1 := (((w4.setCell ⟨g, K * 3, none⟩ (.int .i64 (b : Int))).setCell ⟨g, K * 3 + 1, none⟩ (.int .i64 (fwS M b : Int))).setCell ⟨g, K * 3 + 2, none⟩ (.int .i64 (fwE M b : Int))).drew) (W2 := W4) (vs := vs17 g N ac K ((a : Int), (fwS M a : Int), (fwE M a : Int)) ((b : Int), (fwS M b : Int), (fwE M b : Int))) rfl (fun A hA => ?_) ?_
                · subst hA
                  exact region17K _ w4 g N ac K ((a : Int), (fwS M a : Int), (fwE M a : Int)) ((b : Int), (fwS M b : Int), (fwE M b : Int)) rfl rfl rfl (by omega) (by omega) c0 c1 c2 d0 d1 d2 _ _ cf rfl (unhide HW4)
                intro f
                first
                  | (rename_i hKK; refine hKK _ _ ?_; clear hKK)
                  | (rename_i hKK _; refine hKK _ _ ?_; clear hKK)
                  | (rename_i hKK _ _; refine hKK _ _ ?_; clear hKK)
                  | (rename_i hKK _ _ _; refine hKK _ _ ?_; clear hKK)
                  | (rename_i hKK _ _ _ _; refine hKK _ _ ?_; clear hKK)
                  | (rename_i hKK _ _ _ _ _; refine hKK _ _ ?_; clear hKK)
                  | (rename_i hKK _ _ _ _ _ _; refine hKK _ _ ?_; clear hKK)
                  | (rename_i hKK _ _ _ _ _ _ _; refine hKK _ _ ?_; clear hKK)
                  | (rename_i hKK _ _ _ _ _ _ _ _; refine hKK _ _ ?_; clear hKK)
                  | (rename_i hKK _ _ _ _ _ _ _ _ _; refine hKK _ _ ?_; clear hKK)
                  | (rename_i hKK _ _ _ _ _ _ _ _ _ _; refine hKK _ _ ?_; clear hKK)
                  | (rename_i hKK _ _ _ _ _ _ _ _ _ _ _; refine hKK _ _ ?_; clear hKK)
                  | (rename_i hKK _ _ _ _ _ _ _ _ _ _ _ _; refine hKK _ _ ?_; clear hKK)
                  | (rename_i hKK _ _ _ _ _ _ _ _ _ _ _ _ _; refine hKK _ _ ?_; clear hKK)
                  | (rename_i hKK _ _ _ _ _ _ _ _ _ _ _ _ _ _; refine hKK _ _ ?_; clear hKK)
                  | (rename_i hKK _ _ _ _ _ _ _ _ _ _ _ _ _ _ _; refine hKK _ _ ?_; clear hKK)
                  | (rename_i hKK _ _ _ _ _ _ _ _ _ _ _ _ _ _ _ _; refine hKK _ _ ?_; clear hKK)
                  | (rename_i hKK _ _ _ _ _ _ _ _ _ _ _ _ _ _ _ _ _; refine hKK _ _ ?_; clear hKK)
                  | (rename_i hKK _ _ _ _ _ _ _ _ _ _ _ _ _ _ _ _ _ _; refine hKK _ _ ?_; clear hKK)
                  | (rename_i hKK _ _ _ _ _ _ _ _ _ _ _ _ _ _ _ _ _ _ _; refine hKK _ _ ?_; clear hKK)
                  | (rename_i hKK _ _ _ _ _ _ _ _ _ _ _ _ _ _ _ _ _ _ _ _; refine hKK _ _ ?_; clear hKK)
                  | (rename_i hKK _ _ _ _ _ _ _ _ _ _ _ _ _ _ _ _ _ _ _ _ _; refine hKK _ _ ?_; clear hKK)
                  | (rename_i hKK _ _ _ _ _ _ _ _ _ _ _ _ _ _ _ _ _ _ _ _ _ _; refine hKK _ _ ?_; clear hKK)
                  | (rename_i hKK _ _ _ _ _ _ _ _ _ _ _ _ _ _ _ _ _ _ _ _ _ _ _; refine hKK _ _ ?_; clear hKK)
                simp only [setsL, Nat.reduceAdd, List.setIfInBounds_toArray, List.set_cons_zero, List.set_cons_succ]
                go_wp2_with fail
                go_roundw
                case rel => exact ⟨t + 1, K, by go_num, by omega, hide (by
                  rw [unhide HNp, unhide HSw2]
                  exact unhide HSS)⟩
                case measure => simp [intOf]
              · have hlt2 : ¬ (fwS M b : Int) < (fwS M a : Int) := by omega
                have hsw2 := unhide HSw
                rw [if_neg hlt] at hsw2
                have HSw2 := hide hsw2
                clear hsw2 ha hb c0 c1 c2 d0 d1 d2 cf
                go_wp2_with fail
                go_roundw
                case rel => exact ⟨t + 1, K, by go_num, by omega, hide (by rw [unhide HNp, unhide HSw2]; exact unhide S4)⟩
                case measure => simp [intOf]
            | zero =>
              have HKt : Hd (t = N - 1) := hide (by omega)
              go_wp2_with fail
              go_roundw
              case rel => exact ⟨j + 1, by go_num, by omega, hide (by rw [unhide HNx, ← unhide HKt]; exact unhide hS)⟩
              case measure => simp [intOf]; omega
        · have hjN2 : ¬ (j : Int) < (N : Int) := by omega
          obtain rfl : j = N := by omega
          have hO := bAll_ord M j
          obtain ⟨L, hL⟩ : ∃ L, L = (bAll M (List.range j) j).map (fw M) := ⟨_, rfl⟩
          have hLl : L.length = j := by rw [hL, List.length_map, bAll_len, List.length_range]
          have hG : IvGood L := by rw [hL]; exact hO.good (by omega)
          have hAns := cAsg_ans hG.ok M hM1
          have h0 : (cAsg L M).n = 0 := hO.noslot hM1 (by rw [← hL]; exact hAns)
          have hLe : ∀ i, i < M → (cAsg L M).o[i]? = some (some i, none) := fun i hi => by rw [hL]; exact hO.least hM1 hNb.1 (by omega) hi
          rw [← hL] at hS
          have HRp := hide (own_rep (unhide hS).2)
          have X0 := hide (unhide hS).1
          have hyM : ((y : Int) + 1).toNat = M := by have := unhide HM; omega
          have H1 := hide (fun (W : World) (aa : Option Addr) (ac : Nat) (h : RepI W (In W) aa (tpI (ivT L))) => unhide HC L ((y : Int) + 1) aa ac W (by omega) hG (by omega) (by omega) h)
          rw [hyM] at H1
          obtain ⟨c, hc⟩ : ∃ c, c = cAsg L M := ⟨_, rfl⟩
          rw [← hc] at H1 hAns h0 hLe
          obtain ⟨T, hT⟩ : ∃ T, T = plT L c.o := ⟨_, rfl⟩
          have hTl : T.length = L.length := by rw [hT, plT_len]
          have HSo := hide (show SlOk T by rw [hT, hc]; exact slOk_asg hG.ok (by omega) _)
          have HT := hide hT
          have HAn := hide hAns
          have H0 := hide h0
          have HLe := hide hLe
          have HSl := hide (show ∀ (W : World) (pa : Option Addr) (pc : Nat), RepI W (In W) pa (tpI T) → Calls Try.prog 7 #[.slice pa L.length pc] W fun e w' => e = .returned (.int .i64 0) ∧ Ext W w' from fun W pa pc h => by
            have h2 := unhide HS T pa pc W (by omega) (unhide HSo) h
            rw [hTl, hT, cnt_all hAns, h0] at h2
            exact h2)
          rw [← hT, hLl] at H1
          rw [hLl] at HSl
          clear hO hL hG hAns h0 hLe hc hT hS hyM hjN hj
          go_wp2_with (first
            | (go_at_call 6; refine Calls.mono (unhide H1 _ _ _ (unhide HRp)) ?_; rintro e w2 ⟨pa, pc, rfl, hrp, hx⟩; have RP := hide hrp; have RA2 := hide ((unhide HRp).ext hx); have X2 := hide ((unhide X0).trans hx); clear hrp hx)
            | (go_at_call 7; refine Calls.mono (unhide HSl _ _ _ (unhide RP)) ?_; rintro e w3 ⟨rfl, hx⟩; have RP3 := hide ((unhide RP).ext hx); have RA3 := hide ((unhide RA2).ext hx); have X3 := hide ((unhide X2).trans hx); clear hx))
          go_loopw [11] (fun t11 wq => ∃ (k : Nat), t11 = .int .i64 k ∧ k ≤ j ∧ Hd (Ext w3 wq)) (fun t11 _ => j - (intOf t11).toNat)
          case atStart => exact ⟨0, rfl, by omega, Ext.refl _⟩
          case round =>
            obtain ⟨k, rfl, hkj, hX⟩ := hrel
            by_cases hkl : k < j
            · have hkl2 : (k : Int) < (j : Int) := by omega
              have hkL : k < L.length := by omega
              rcases pl_each (unhide HAn) hkL with ⟨p, hTi, hpn, hoi⟩ | ⟨s, hTi, hoi⟩
              · rw [← unhide HT] at hTi
                obtain ⟨q0, q1, q2⟩ := tpI_at hTi
                have hne : Nonempty (RGw wr) := ⟨⟨wr, Ext.refl _⟩⟩
                obtain ⟨ab, ao, e1, _, a0⟩ := ((unhide RA3).ext (unhide hX)).at (tpI_at (ivT_at hkL)).1
                injection e1 with e1; injection e1 with e1 e2; subst e1 e2
                obtain ⟨pb, po, rfl, _, x0⟩ := ((unhide RP3).ext (unhide hX)).at q0
                obtain ⟨pb', po', e1, _, x1⟩ := ((unhide RP3).ext (unhide hX)).at q1
                injection e1 with e1; injection e1 with e1 e2; subst e1 e2
                obtain ⟨pb', po', e1, _, x2⟩ := ((unhide RP3).ext (unhide hX)).at q2
                injection e1 with e1; injection e1 with e1 e2; subst e1 e2
                simp only [← Nat.add_assoc, Nat.zero_add] at a0 x0 x1 x2
                have va0 := fun y : RGw wr => y.h.cell a0
                have vx0 := fun y : RGw wr => y.h.cell x0
                have vx1 := fun y : RGw wr => y.h.cell x1
                have vx2 := fun y : RGw wr => y.h.cell x2
                have HP := hide (show (p : Int) < (y : Int) + 1 by have := unhide HM; omega)
                clear hTi q0 q1 q2 hoi hpn a0 x0 x1 x2
                go_wp2_with fail
                refine wp_region_rx (W := wr) (by kernel_rfl) (by kernel_rfl) (Ext.refl _) ?_
                have hpd : decide ((p : Int) < 0) = false := decide_eq_false (by omega)
                have hpk : decide ((y : Int) + 1 ≤ (p : Int)) = false := decide_eq_false (by have := unhide HP; omega)
                repeat (go_big_quiet_step (fail))
                refine wpQuiet_nil ?_
                rintro w4 ⟨⟨_, hx4⟩, rfl⟩
                have X4 := hide ((unhide hX).trans hx4)
                clear va0 vx0 vx1 vx2 hx4
                go_wp2_with fail
                go_roundw
                case rel => exact ⟨k + 1, by go_num, by omega, X4⟩
                case measure => simp [intOf]; omega
              · exact (no_slot (unhide HAn) (unhide H0) hoi).elim
            · have hkl2 : ¬ (k : Int) < (j : Int) := by omega
              have X5 := hide ((unhide X3).trans (unhide hX))
              have RP5 := hide ((unhide RP3).ext (unhide hX))
              clear hX X3 RP3 RA3 RA2 RP HRp X2 X0 hkl hkj
              go_wp2_with fail
              go_loopw [12] (fun t12 wq => ∃ (k : Nat), t12 = .int .i64 k ∧ k ≤ y + 1 ∧ Hd (Ext wr wq)) (fun t12 _ => y + 1 - (intOf t12).toNat)
              case atStart => exact ⟨0, rfl, by omega, Ext.refl _⟩
              case round =>
                obtain ⟨k, rfl, hkj, hX⟩ := hrel
                by_cases hkl : k < y + 1
                · have hkl2 : (k : Int) < (y : Int) + 1 := by omega
                  have hkM : k < M := by have := unhide HM; omega
                  have hkL : k < L.length := by omega
                  have hkj2 : (k : Int) < (j : Int) := by omega
                  rcases pl_each (unhide HAn) hkL with ⟨p, hTi, hpn, hoi⟩ | ⟨s, hTi, hoi⟩
                  · have hle := unhide HLe k hkM
                    rw [hoi] at hle
                    injection hle with hle
                    injection hle with hle
                    injection hle with hle
                    subst hle
                    rw [← unhide HT] at hTi
                    obtain ⟨q0, q1, q2⟩ := tpI_at hTi
                    obtain ⟨pb, po, rfl, _, x1⟩ := ((unhide RP5).ext (unhide hX)).at q1
                    simp only [← Nat.add_assoc, Nat.zero_add] at x1
                    clear hTi q0 q1 q2 hoi hpn
                    go_wp2_with fail
                    go_roundw
                    case rel => exact ⟨p + 1, by go_num, by omega, hX⟩
                    case measure => simp [intOf]; omega
                  · exact (no_slot (unhide HAn) (unhide H0) hoi).elim
                · have hkl2 : ¬ (k : Int) < (y : Int) + 1 := by omega
                  clear hkl hkj
                  go_wp2_with (go_at_call 8; refine Calls.mono (unhide HA _) ?_; rintro e w6 ⟨rfl, hx⟩; have X6 := hide ((unhide X5).trans ((unhide hX).trans hx)); clear hx)
                  go_ret
                  exact ⟨rfl, unhide X6⟩

end Go.Proofs.Ytjopfpchbakggaa
