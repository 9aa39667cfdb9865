/- turnEnds, walked. -/
import Derived.Test.YtdnhekgbfhlhoaaThE
set_option linter.unusedSimpArgs false
set_option linter.unusedVariables false
set_option maxRecDepth 10000
namespace Go.Proofs.Ytdnhekgbfhlhoaa
open Go.RowKit

set_option maxHeartbeats 2000000 in
theorem turnEnds_w (base g cap : Nat) (l : List RB) (ads : List (Option Addr × Nat)) (F : Nat → Nat) (w : World) (hn : l.length ≤ 1000000) (hF : Fwd l F) (hb : BlS w base g cap l ads) :
    Calls Try.prog 9 #[.slice (some ⟨g, 0, none⟩) l.length cap] w fun e w' => e = .returned (.bool (anyP (fz l.length F) l)) ∧ BlS w' base g cap (l.map (tbP (fz l.length F))) ads ∧ w.grownBy w' (some g) := by
  have HNt := hide (newTrails_w (some ⟨g, 0, none⟩) l.length cap w hn)
  have HB := hide hb
  have Hg := hide hb.row
  have HTd := hide (fun (W : World) (B N : Nat) (fin : List Int) (t : RT) (hr : RepB W (fun q => q < W.heap.size ∧ q ≠ N) (some ⟨g, 0, none⟩) l ads) (hT : TrS W B N (some ⟨g, 0, none⟩) cap l.length fin) (hI : FinI F [] fin) => turned_w t B N (some ⟨g, 0, none⟩) cap l ads F fin W hn hF hr hT hI)
  have hmk := fun W => make_ends l.length hn W
  obtain ⟨n, hln⟩ : ∃ n, n = l.length := ⟨_, rfl⟩
  have HN := hide hln
  rw [← hln] at hn HNt hmk HTd ⊢
  clear hF hb hln
  go_enter Try.func9, Try.ntmps9
  go_wp2_with (go_at_call 18; refine Calls.mono (unhide HNt) ?_; rintro e w1 ⟨B, N, rfl, hB, hN, t1, x1⟩; have T1 := hide t1; have X1 := hide x1; have HBn := hide hB; have HNn := hide hN; clear t1 x1 hB hN)
  obtain ⟨R, hR⟩ : ∃ R, R = w1.heap.size := ⟨_, rfl⟩
  have S0 : Hd (TeI w (w1.alloc (.cells (eC (List.replicate n ⟨0, 0, 0, 0⟩)).toArray 35)) base g cap l ads F B N R (List.replicate n (-2)) (List.replicate n ⟨0, 0, 0, 0⟩) 0) := by
    refine ⟨(unhide X1).trans (Ext.alloc _ _), ⟨unhide HBn, unhide HNn, by rw [hR]; exact (unhide X1).size⟩, by rw [← unhide HN]; exact (unhide T1).on (Ext.alloc _ _), fun i x hx => ?_, by rw [hR]; exact Row.new _ _ _, by rw [← unhide HN]; simp, fun k _ hk => by omega⟩
    obtain rfl := List.eq_of_mem_replicate (List.mem_of_getElem? hx)
    exact Or.inl rfl
  rw [← hR]
  have HRe := hide hR
  clear hR hmk
  go_loopw [17] (fun t wr => ∃ (i : Nat) (fin : List Int) (d : List RT), t = .int .i64 (i : Int) ∧ i ≤ n ∧ Hd (TeI w wr base g cap l ads F B N R fin d i)) (fun t _ => n - (intOf t).toNat)
  case atStart => exact ⟨0, _, _, rfl, by omega, S0⟩
  case round =>
    clear S0
    obtain ⟨i, fin, d, rfl, hi, hS⟩ := hrel
    by_cases hlt : i < n
    · obtain ⟨b, hb⟩ : ∃ b, l[i]? = some b := ⟨_, List.getElem?_eq_getElem (by rw [← unhide HN]; exact hlt)⟩
      obtain ⟨d0, _, c0, c1, c2, c3, c4⟩ := ((unhide HB).on (unhide hS).ext).cells hb
      obtain ⟨t0, ht0⟩ : ∃ t0, d[i]? = some t0 := ⟨_, List.getElem?_eq_getElem (by rw [(unhide hS).len, ← unhide HN]; exact hlt)⟩
      have Hb := hide hb
      have HC := hide (fun (o : Obj) => unhide HTd (wr.alloc o) B N fin b.t ((unhide hS).rep (unhide HB) (Ext.alloc wr o)) (by have := (unhide hS).tr.on (Ext.alloc wr o); rw [← unhide HN] at this; exact this) (unhide hS).inv)
      obtain ⟨u, hu⟩ : ∃ u, u = turnedP (fz n F) b.t := ⟨_, rfl⟩
      rw [← hu] at HC
      rw [unhide HN] at hu
      have Hu := hide hu
      have HT0 := hide ht0
      obtain ⟨bc, bk, ba, bt, be⟩ := b
      obtain ⟨uk, ua, ut, ue⟩ := u
      simp only at HC c0 c1 c2 c3 c4
      have hlt2 : (i : Int) < (n : Int) := by omega
      clear hb hu ht0
      go_wp2_with (go_at_call 19; refine Calls.mono (unhide HC _) ?_; rintro e w2 ⟨rfl, fin2, k2⟩; rw [unhide HN] at k2; have rR : Row w2 R 35 (eC d) := gb_row k2.gb ((Ext.alloc wr _).row (unhide hS).row) (unhide hS).ne.2; have y0 : w2.cell? ⟨R, i * 4, none⟩ = some (.int .i64 t0.k) := rR.cell (i * 4 + 0) (eC_at (unhide HT0) 0 rfl); have y1 := rR.cell (i * 4 + 1) (eC_at (unhide HT0) 1 rfl); have y2 := rR.cell (i * 4 + 2) (eC_at (unhide HT0) 2 rfl); have y3 := rR.cell (i * 4 + 3) (eC_at (unhide HT0) 3 rfl); have fR := (fun j : Nat => k_rowF rR j); have S2 := hide ((unhide hS).step (unhide Hb) (Ext.alloc wr _) k2 (unhide Hu)); clear k2 rR)
      go_roundw
      case rel => exact ⟨i + 1, _, _, by go_num, by omega, S2⟩
      case measure => simp [intOf]; omega
    · obtain rfl : i = n := by omega
      obtain ⟨hbg, hgw, _, _, _⟩ := unhide Hg
      have F0 : Hd (TfI w wr base g cap l l ads (fz i F) R d 0) := ⟨gb_ext (unhide hS).ext _, (unhide HB).on (unhide hS).ext, (unhide hS).row, rfl, fun k _ hk => by omega, fun _ _ => rfl⟩
      have HD : Hd (∀ (k : Nat) (b : RB), l[k]? = some b → d[k]? = some (turnedP (fz i F) b.t)) := fun k b hk => by
        have := (unhide hS).don k b (by rw [unhide HN]; exact (List.getElem?_eq_some_iff.1 hk).1) hk
        rw [← unhide HN] at this
        exact this
      have HRg : Hd (R ≠ g) := by have := (unhide hS).up.2.2; intro e; omega
      have HA0 : Hd (anyP (fz i F) (l.take 0) = false) := rfl
      clear hS hi hlt
      go_wp2_with fail
      go_loopw [7, 32] (fun t7 t32 wr => ∃ (j : Nat) (l2 : List RB), t7 = .bool (anyP (fz i F) (l.take j)) ∧ t32 = .int .i64 (j : Int) ∧ j ≤ i ∧ Hd (TfI w wr base g cap l l2 ads (fz i F) R d j)) (fun _ t _ => i - (intOf t).toNat)
      case atStart => exact ⟨0, l, by rw [unhide HA0], rfl, by omega, F0⟩
      case round =>
        clear F0
        obtain ⟨j, l2, rfl, rfl, hj, hS⟩ := hrel
        by_cases hlt : j < i
        · obtain ⟨b, hb⟩ : ∃ b, l[j]? = some b := ⟨_, List.getElem?_eq_getElem (by rw [← unhide HN]; exact hlt)⟩
          have hb2 : l2[j]? = some b := by rw [(unhide hS).rest j (Nat.le_refl _)]; exact hb
          obtain ⟨d0, _, c0, c1, c2, c3, c4⟩ := (unhide hS).bl.cells hb2
          obtain ⟨_, _, _, _, cur, hcur⟩ := (unhide hS).bl.row
          have fg := fun j : Nat => k_rowF hcur j
          have HU := unhide HD j b hb
          have rR := (unhide hS).row
          obtain ⟨u, hu⟩ : ∃ u, u = turnedP (fz i F) b.t := ⟨_, rfl⟩
          rw [← hu] at HU
          have HA := hide (anyP_step (fz i F) l j b hb)
          rw [← hu] at HA
          have y0 : wr.cell? ⟨R, j * 4, none⟩ = some (.int .i64 u.k) := rR.cell (j * 4 + 0) (eC_at HU 0 rfl)
          have y1 : wr.cell? ⟨R, j * 4 + 1, none⟩ = some (.int .i64 u.a) := rR.cell (j * 4 + 1) (eC_at HU 1 rfl)
          have y2 : wr.cell? ⟨R, j * 4 + 2, none⟩ = some (.int .i64 u.t) := rR.cell (j * 4 + 2) (eC_at HU 2 rfl)
          have y3 : wr.cell? ⟨R, j * 4 + 3, none⟩ = some (.int .i64 u.e) := rR.cell (j * 4 + 3) (eC_at HU 3 rfl)
          have S2 := hide (fun (o : Obj) => ((unhide hS).step hb (unhide HRg) hu).on (Ext.drew (Ext.alloc _ o)))
          have c0 := fun o => (Ext.alloc wr o).cell c0
          have c1 := fun o => (Ext.alloc wr o).cell c1
          have c2 := fun o => (Ext.alloc wr o).cell c2
          have c3 := fun o => (Ext.alloc wr o).cell c3
          have c4 := fun o => (Ext.alloc wr o).cell c4
          obtain ⟨bc, bk, ba, bt, be⟩ := b
          obtain ⟨uk, ua, ut, ue⟩ := u
          simp only at y0 y1 y2 y3 c0 c1 c2 c3 c4 HA
          have hlt2 : (j : Int) < (i : Int) := by omega
          generalize anyP (fz i F) (l.take j) = A0 at *
          clear hb hb2 hu HU rR hcur hS
          cases A0
          · have hne := neq_end uk ua ut ue bk ba bt be
            simp only [Bool.false_or] at HA
            generalize rneP ⟨uk, ua, ut, ue⟩ ⟨bk, ba, bt, be⟩ = A1 at *
            go_wp2_with fail
            go_region
            go_wp2_with fail
            go_roundw
            case rel => exact ⟨j + 1, _, by rw [unhide HA], by go_num, by omega, unhide S2 _⟩
            case measure => simp [intOf]; omega
          · simp only [Bool.true_or] at HA
            go_wp2_with fail
            go_region
            go_wp2_with fail
            go_roundw
            case rel => exact ⟨j + 1, _, by rw [unhide HA], by go_num, by omega, unhide S2 _⟩
            case measure => simp [intOf]; omega
        · obtain rfl : j = i := by omega
          have hD := unhide hS
          have hA : anyP (fz j F) (l.take j) = anyP (fz j F) l := by rw [unhide HN, List.take_length]
          rw [hA]
          have HA1 := hide hA
          have Hgb := hide hD.gb
          have HD2 : Hd (BlS wr base g cap (l.map (tbP (fz j F))) ads) := by
            have h3 := unhide hS
            have e : j = l.length := unhide HN
            unfold Hd
            rw [e] at h3 ⊢
            exact h3.done
          clear hS hD hA
          obtain ⟨A2, hA2⟩ : ∃ A2, A2 = anyP (fz j F) l := ⟨_, rfl⟩
          rw [← hA2]
          have HA2 := hide hA2
          clear hA2 HA1
          go_wp2_with fail
          go_ret
          exact ⟨retB (unhide HA2), unhide HD2, unhide Hgb⟩

end Go.Proofs.Ytdnhekgbfhlhoaa
