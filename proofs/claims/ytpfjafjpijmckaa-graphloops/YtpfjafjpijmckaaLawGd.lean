/- GraphDoms: any graph, any two points. -/
import Derived.Test.YtpfjafjpijmckaaGrDg
import Derived.Test.YtpfjafjpijmckaaGrGw
import Derived.Test.YtpfjafjpijmckaaGrSz
set_option linter.unusedSimpArgs false
set_option linter.unusedVariables false
set_option maxRecDepth 10000
namespace Go.Proofs.Ytpfjafjpijmckaa
open Go.RowKit

theorem gFew_few {g : List (List Int)} (h : gFew g = true) : g.length ≤ 40 ∧ ∀ l ∈ g, l.length ≤ 60 := by
  unfold gFew at h
  simp at h
  exact h
theorem gDmU_out (d : List Int) (a : Int) (h : a < 0 ∨ (d.length : Int) ≤ a) : ∀ (k : Nat) (b : Int), gDmU d a k b = false
  | 0, b => rfl
  | k + 1, b => by
    rw [gDmU]
    split
    · rfl
    · rename_i hb
      rw [if_neg (by omega)]
      exact gDmU_out d a h k _
theorem gDmU_out2 (d : List Int) (a b : Int) (h : b < 0 ∨ (d.length : Int) ≤ b) (k : Nat) : gDmU d a k b = false := by
  cases k with
  | zero => rfl
  | succ k => rw [gDmU, if_pos h]
theorem row_repI {w : World} {b : Nat} {l : List Int} (h : Row w b 3 (zs l)) : RepI w (In w) (some ⟨b, 0, none⟩) l := Or.inr ⟨b, 0, rfl, k_lt h, fun j x hx => by rw [Nat.zero_add]; exact h.cell j (by rw [zs, List.getElem?_map, hx]; rfl)⟩

set_option maxHeartbeats 2000000 in
theorem gdoms_few (ga : Option Addr) (n gc : Nat) (A1 B1 : Int) (w : World) (HF : Calls Try.prog 16 #[.slice ga n gc] w fun e w' => e = .returned (.bool false) ∧ w' = w) :
    Calls Try.prog 5 #[.slice ga n gc, .int .i64 A1, .int .i64 B1] w fun e w' => e = .returned (.bool true) ∧ Ext w w' := by
  have H1 := hide HF
  have H2 := hide (awake_w w)
  clear HF
  go_enter Try.func5, Try.ntmps5
  go_wp2_with (first
    | (go_at_call 16; refine Calls.mono (unhide H1) ?_; rintro e w1 ⟨rfl, hw⟩; obtain rfl := hw.symm)
    | (go_at_call 15; refine Calls.mono (unhide H2) ?_; rintro e w1 ⟨rfl, x1⟩; have X1 := hide x1; clear x1))
  go_ret
  exact ⟨rfl, unhide X1⟩

set_option maxHeartbeats 8000000 in
theorem gdoms_main (ga : Option Addr) (n gc : Nat) (A1 B1 : Int) (w : World) (DM : List Int) (O : List (List Bool)) (R : List Bool) (hn : n ≤ 40) (hDM : DM.length = n) (hOl : O.length = n) (hOr : ∀ l ∈ O, l.length = n) (hR : R.length = n)
    (hU : ∀ x y : Nat, x < n → y < n → R[x]? = some true → R[y]? = some true → gDmU DM (x : Int) n (y : Int) = oFn O x y)
    (HF : Calls Try.prog 16 #[.slice ga n gc] w fun e w' => e = .returned (.bool true) ∧ w' = w)
    (HD : Calls Try.prog 9 #[.slice ga n gc] w fun e w' => ∃ b, e = .returned (slV b n) ∧ Row w' b 3 (zs DM) ∧ Ext w w')
    (HRD : ∀ W, Ext w W → Calls Try.prog 23 #[.slice ga n gc] W fun e w' => ∃ b, e = .returned (slV b n) ∧ Row w' b 3 (zs DM) ∧ Ext W w')
    (HO : ∀ W, Ext w W → Calls Try.prog 24 #[.slice ga n gc] W fun e w' => ∃ oa oc, e = .returned (.slice oa n oc) ∧ RepGB w' (In w') oa O ∧ Ext W w')
    (HR : ∀ W, Ext w W → Calls Try.prog 21 #[.slice ga n gc] W fun e w' => ∃ S, e = .returned (slV S n) ∧ Row w' S 4 (bsV R) ∧ Ext W w') :
    Calls Try.prog 5 #[.slice ga n gc, .int .i64 A1, .int .i64 B1] w fun e w' => e = .returned (.bool true) ∧ Ext w w' := by
  have HF := hide HF
  have HD := hide HD
  have HRD := hide HRD
  have HO := hide HO
  have HR := hide HR
  have HA := hide awake_w
  have HU := hide hU
  have HOl := hide hOl
  have HOr := hide hOr
  have hRl := hide hR
  have HS : Hd (∀ (W : World) (a b : Nat), Row W a 3 (zs DM) → Row W b 3 (zs DM) → Calls Try.prog 11 #[slV a n, slV b n] W fun e w' => e = .returned (.bool true) ∧ Ext W w') := fun W a b h1 h2 => by
    have := sameInts_w DM _ _ n n _ _ W (row_repI h1) (row_repI h2) (by omega)
    rw [hDM] at this
    exact this
  have HDm : Hd (∀ (W : World) (b : Nat) (x y : Int), Row W b 3 (zs DM) → Calls Try.prog 14 #[slV b n, .int .i64 x, .int .i64 y] W fun e w' => e = .returned (.bool (gDmU DM x n y)) ∧ w' = W) := fun W b x y h => by
    have := domi_w DM _ n x y W (row_repI h) (by omega)
    rw [hDM] at this
    exact this
  have HOutA : Hd (∀ x y : Int, (x < 0 ∨ (n : Int) ≤ x) → gDmU DM x n y = false) := fun x y h => gDmU_out DM x (by rw [hDM]; exact h) n y
  have HOutB : Hd (∀ x y : Int, (y < 0 ∨ (n : Int) ≤ y) → gDmU DM x n y = false) := fun x y h => gDmU_out2 DM x y (by rw [hDM]; exact h) n
  clear hU hOl hOr hR hDM
  go_enter Try.func5, Try.ntmps5
  go_wp2_with (first
    | (go_at_call 16; refine Calls.mono (unhide HF) ?_; rintro e w1 ⟨rfl, hw⟩; obtain rfl := hw.symm)
    | (go_at_call 9; refine Calls.mono (unhide HD) ?_; rintro e w2 ⟨db, rfl, r2, x2⟩; have R2 := hide r2; have X2 := hide x2; clear r2 x2)
    | (go_at_call 23; refine Calls.mono (unhide HRD w2 (unhide X2)) ?_; rintro e w3 ⟨eb, rfl, r3, x3⟩; have R3 := hide r3; have R2' := hide ((unhide R2).on x3); have X3 : Hd (Ext w w3) := (unhide X2).trans x3; clear r3 x3)
    | (go_at_call 11; refine Calls.mono (unhide HS w3 db eb (unhide R2') (unhide R3)) ?_; rintro e w4 ⟨rfl, x4⟩; have R4 := hide ((unhide R2').on x4); have X4 : Hd (Ext w w4) := (unhide X3).trans x4; clear x4)
    | (go_at_call 24; refine Calls.mono (unhide HO w4 (unhide X4)) ?_; rintro e w5 ⟨oa, oc, rfl, r5, x5⟩; have R5 := hide r5; have R4' := hide ((unhide R4).on x5); have X5 : Hd (Ext w w5) := (unhide X4).trans x5; clear r5 x5)
    | (go_at_call 21; refine Calls.mono (unhide HR w5 (unhide X5)) ?_; rintro e w6 ⟨S, rfl, r6, x6⟩; have R6 := hide r6; have R5' := hide ((unhide R5).ext x6); have R4'' := hide ((unhide R4').on x6); have X6 : Hd (Ext w w6) := (unhide X5).trans x6; clear r6 x6))
  clear R2 R2' R3 R4 R4' R5 X2 X3 X4 X5
  go_loopw [10] (fun t wr => ∃ (x : Nat), t = .int .i64 (x : Int) ∧ x ≤ n ∧ Hd (Ext w6 wr)) (fun t _ => n - (intOf t).toNat)
  case atStart => exact ⟨0, rfl, by omega, Ext.refl _⟩
  case round =>
    obtain ⟨x, rfl, hx, hX⟩ := hrel
    by_cases hlx : x < n
    · have hlx2 : (x : Int) < (n : Int) := by omega
      obtain ⟨ob, oo, e0, hcell⟩ := (unhide R5').cells (unhide HOl) (unhide HOr) (by omega)
      subst e0
      have HCell := hide hcell
      clear hcell
      go_wp2_with fail
      go_loopw [11] (fun t wr => ∃ (y : Nat), t = .int .i64 (y : Int) ∧ y ≤ n ∧ Hd (Ext w6 wr)) (fun t _ => n - (intOf t).toNat)
      case atStart => exact ⟨0, rfl, by omega, hX⟩
      case round =>
        clear hX
        obtain ⟨y, rfl, hy, hX⟩ := hrel
        by_cases hly : y < n
        · have hly2 : (y : Int) < (n : Int) := by omega
          have hne : Nonempty (RGw wr) := ⟨⟨wr, Ext.refl _⟩⟩
          obtain ⟨rx, hrx⟩ : ∃ rx, R[x]? = some rx := ⟨_, List.getElem?_eq_getElem (by rw [unhide hRl]; exact hlx)⟩
          obtain ⟨ry, hry⟩ : ∃ ry, R[y]? = some ry := ⟨_, List.getElem?_eq_getElem (by rw [unhide hRl]; exact hly)⟩
          have kx : ∀ v : RGw wr, v.w.cell? ⟨S, x, none⟩ = some (.bool rx) := fun v => v.h.cell ((unhide hX).cell ((unhide R6).cell x (bs_at hrx)))
          have ky : ∀ v : RGw wr, v.w.cell? ⟨S, y, none⟩ = some (.bool ry) := fun v => v.h.cell ((unhide hX).cell ((unhide R6).cell y (bs_at hry)))
          cases rx with
          | false =>
            clear ky hrx hry
            go_wp2_with fail
            refine wp_region_rx (W := wr) (by kernel_rfl) (by kernel_rfl) (Ext.refl _) ?_
            repeat (go_big_quiet_step (fail))
            refine wpQuiet_nil ?_
            rintro _ ⟨⟨w7, hx7⟩, rfl⟩
            have HX7 := hide hx7
            clear hx7
            go_wp2_with fail
            go_roundw
            case rel => exact ⟨y + 1, by go_num, by omega, (unhide hX).trans (unhide HX7)⟩
            case measure => simp [intOf]; omega
          | true =>
            cases ry with
            | false =>
              clear hrx hry
              go_wp2_with fail
              refine wp_region_rx (W := wr) (by kernel_rfl) (by kernel_rfl) (Ext.refl _) ?_
              repeat (go_big_quiet_step (fail))
              refine wpQuiet_nil ?_
              rintro _ ⟨⟨w7, hx7⟩, rfl⟩
              have HX7 := hide hx7
              clear hx7
              go_wp2_with fail
              go_roundw
              case rel => exact ⟨y + 1, by go_num, by omega, (unhide hX).trans (unhide HX7)⟩
              case measure => simp [intOf]; omega
            | true =>
              obtain ⟨ib, io, ic, q1, q2⟩ := unhide HCell x y hlx hly
              have k1 : ∀ v : RGw wr, v.w.cell? ⟨ob, oo + x, none⟩ = some (.slice (some ⟨ib, io, none⟩) n ic) := fun v => v.h.cell ((unhide hX).cell q1)
              have k2 : ∀ v : RGw wr, v.w.cell? ⟨ib, io + y, none⟩ = some (.bool (oFn O x y)) := fun v => v.h.cell ((unhide hX).cell q2)
              have hu := unhide HU x y hlx hly hrx hry
              have HDq : Hd (∀ W, Ext wr W → Calls Try.prog 14 #[slV db n, .int .i64 (x : Int), .int .i64 (y : Int)] W fun e w' => e = .returned (.bool (oFn O x y)) ∧ Ext W w') := fun W h => (unhide HDm W db x y ((unhide R4'').on ((unhide hX).trans h))).mono (by
                rintro e w' ⟨rfl, rfl⟩
                exact ⟨by rw [hu], Ext.refl _⟩)
              generalize oFn O x y = ov at k2 HDq
              clear q1 q2 hu hrx hry
              have hov : (ov == ov) = true := by cases ov <;> rfl
              go_wp2_with fail
              refine wp_region_rx (W := wr) (by kernel_rfl) (by kernel_rfl) (Ext.refl _) ?_
              repeat (go_big_quiet_step (first | (go_at_call 14; exact Calls.rx_of _ _ (unhide HDq _ (RGw.h _)))))
              refine wpQuiet_nil ?_
              rintro _ ⟨⟨w7, hx7⟩, rfl⟩
              have HX7 := hide hx7
              clear hx7
              go_wp2_with fail
              go_roundw
              case rel => exact ⟨y + 1, by go_num, by omega, (unhide hX).trans (unhide HX7)⟩
              case measure => simp [intOf]; omega
        · obtain rfl : y = n := by omega
          go_wp2_with fail
          go_roundw
          case rel => exact ⟨x + 1, by go_num, by omega, hX⟩
          case measure => simp [intOf]; omega
    · obtain rfl : x = n := by omega
      have HXw : Hd (Ext w wr) := (unhide X6).trans (unhide hX)
      have hRD := hide ((unhide R4'').on (unhide hX))
      clear R4'' R5' R6 X6 hX
      by_cases a0 : A1 < 0
      · have HOut := hide (unhide HOutA A1 B1 (Or.inl a0))
        go_wp2_with (first
          | (go_at_call 14; refine Calls.mono (unhide HDm wr db A1 B1 (unhide hRD)) ?_; rintro e w8 ⟨rfl, hw8⟩; obtain rfl := hw8.symm; rw [unhide HOut])
          | (go_at_call 15; refine Calls.mono (unhide HA wr) ?_; rintro e w9 ⟨rfl, x9⟩; have X9 : Hd (Ext w w9) := (unhide HXw).trans x9; clear x9))
        go_ret
        exact ⟨rfl, unhide X9⟩
      · by_cases a1 : (x : Int) ≤ A1
        · have HOut := hide (unhide HOutA A1 B1 (Or.inr a1))
          go_wp2_with (first
            | (go_at_call 14; refine Calls.mono (unhide HDm wr db A1 B1 (unhide hRD)) ?_; rintro e w8 ⟨rfl, hw8⟩; obtain rfl := hw8.symm; rw [unhide HOut])
            | (go_at_call 15; refine Calls.mono (unhide HA wr) ?_; rintro e w9 ⟨rfl, x9⟩; have X9 : Hd (Ext w w9) := (unhide HXw).trans x9; clear x9))
          go_ret
          exact ⟨rfl, unhide X9⟩
        · by_cases b0 : B1 < 0
          · have HOut := hide (unhide HOutB A1 B1 (Or.inl b0))
            go_wp2_with (first
              | (go_at_call 14; refine Calls.mono (unhide HDm wr db A1 B1 (unhide hRD)) ?_; rintro e w8 ⟨rfl, hw8⟩; obtain rfl := hw8.symm; rw [unhide HOut])
              | (go_at_call 15; refine Calls.mono (unhide HA wr) ?_; rintro e w9 ⟨rfl, x9⟩; have X9 : Hd (Ext w w9) := (unhide HXw).trans x9; clear x9))
            go_ret
            exact ⟨rfl, unhide X9⟩
          · by_cases b1 : (x : Int) ≤ B1
            · have HOut := hide (unhide HOutB A1 B1 (Or.inr b1))
              go_wp2_with (first
                | (go_at_call 14; refine Calls.mono (unhide HDm wr db A1 B1 (unhide hRD)) ?_; rintro e w8 ⟨rfl, hw8⟩; obtain rfl := hw8.symm; rw [unhide HOut])
                | (go_at_call 15; refine Calls.mono (unhide HA wr) ?_; rintro e w9 ⟨rfl, x9⟩; have X9 : Hd (Ext w w9) := (unhide HXw).trans x9; clear x9))
              go_ret
              exact ⟨rfl, unhide X9⟩
            · skip
              go_wp2_with (first
                | (go_at_call 15; refine Calls.mono (unhide HA wr) ?_; rintro e w9 ⟨rfl, x9⟩; have X9 : Hd (Ext w w9) := (unhide HXw).trans x9; clear x9))
              go_ret
              exact ⟨rfl, unhide X9⟩

/-- What both tell of dominators. -/
theorem doms_same (g : List (List Int)) (F : GW) (R : List Bool) (ws : List (List Bool)) (hF : gWalk g 100 = some F) (h40 : g.length ≤ 40) (hR : rFrom (gNorm g) 0 (-1) 50 = some R) (hRl : R.length = g.length) (hws : ∀ a : Nat, a < g.length → ∃ W, ws[a]? = some W ∧ rFrom (gNorm g) 0 (a : Int) 50 = some W ∧ W.length = g.length) :
    ∃ d, gDoms g 100 = some d ∧ d.length = g.length ∧ d.map oI = (List.range g.length).map (fun b => rDmS g.length (oFn (rOv g.length R ws)) b (List.range g.length) (-1)) ∧
      ∀ x y : Nat, x < g.length → y < g.length → R[x]? = some true → R[y]? = some true → gDmU (d.map oI) (x : Int) g.length (y : Int) = oFn (rOv g.length R ws) x y := by
  by_cases h0 : g.length = 0
  · refine ⟨[], gDoms_nil g 100 h0, h0.symm, by rw [h0]; rfl, fun x y hx => by omega⟩
  · obtain ⟨D, hs, hW⟩ := gWalk_dfs g 100 F h0 hF
    have hsh := gWalk_reach g 100 50 F R hF hR hRl
    rw [hsh] at hs
    obtain ⟨d, d1, d2⟩ := gDoms_ok g 100 F h0 hF (by omega)
    have hov := ov_ok g F.met R ws hs (fun a ha => by
      obtain ⟨W, w1, w2, _⟩ := hws a ha
      exact ⟨50, W, w1, w2⟩)
    have hM := nodup_len g.length F.met D.nd D.lt
    refine ⟨d, d1, d2.len, ?_, fun x y hx hy hx1 hy1 => ?_⟩
    · apply List.ext_getElem
      · simp [d2.len]
      · intro b h1 h2
        have hb : b < g.length := by simpa using h2
        rw [List.getElem_map, List.getElem_map, List.getElem_range, rDmS_ok D _ hov d d2 b hb, List.getD_eq_getElem?_getD, List.getElem?_eq_getElem (by rw [d2.len]; exact hb)]
        rfl
    · have hxm := (hs x).1 hx1
      have hym := (hs y).1 hy1
      obtain ⟨nx, hnx⟩ := List.getElem?_of_mem hxm
      obtain ⟨ny, hny⟩ := List.getElem?_of_mem hym
      have hnyN := (List.getElem?_eq_some_iff.1 hny).1
      have e1 := gDmU_ok D d d2 hnx g.length ny y (by omega) hny
      have e2 := hov x y hx hy
      have : gDmU (d.map oI) (x : Int) g.length (y : Int) = true ↔ oFn (rOv g.length R ws) x y = true := by
        rw [e1, e2]
        exact ⟨fun h => ⟨hxm, hym, h⟩, fun h => h.2.2⟩
      cases ha : gDmU (d.map oI) (x : Int) g.length (y : Int) <;> cases hb : oFn (rOv g.length R ws) x y <;> simp_all
theorem ws_ends (g : List (List Int)) (h40 : g.length ≤ 40) : ∃ ws : List (List Bool), ∀ a : Nat, a < g.length → ∃ W, ws[a]? = some W ∧ rFrom (gNorm g) 0 (a : Int) 50 = some W ∧ W.length = g.length := by
  refine ⟨(List.range g.length).map (fun (a : Nat) => (rFrom (gNorm g) 0 (a : Int) 50).getD []), fun a ha => ?_⟩
  obtain ⟨W, w1, w2⟩ := rFrom_ends (gNorm g) 0 (a : Int) 50 (gNorm_pts g) (by rw [gNorm_len]; omega)
  rw [gNorm_len] at w2
  exact ⟨W, by rw [List.getElem?_map, List.getElem?_range ha, Option.map_some, w1]; rfl, w1, w2⟩

/-- Any graph, any two points. -/
theorem gdoms_walk (ga : Option Addr) (gc : Nat) (g : List (List Int)) (A1 B1 : Int) (w : World) (hg : RepG w (In w) ga g) (hm : g.length ≤ maxLen) (hb : ∀ l ∈ g, l.length ≤ maxLen) :
    Calls Try.prog 5 #[.slice ga g.length gc, .int .i64 A1, .int .i64 B1] w fun e w' => e = .returned (.bool true) ∧ Ext w w' := by
  have HF := few_w ga gc g w hg (by unfold maxLen at hm; omega) (fun l hl => by have := hb l hl; unfold maxLen at this; omega)
  cases hfw : gFew g with
  | false => rw [hfw] at HF; exact gdoms_few ga g.length gc A1 B1 w HF
  | true =>
    rw [hfw] at HF
    obtain ⟨h40, h60⟩ := gFew_few hfw
    have hf : Few g := ⟨by omega, fun l hl => Nat.le_trans (h60 l hl) (by omega)⟩
    obtain ⟨F, hF, hW⟩ := gWalk_ends g 100 (by omega)
    obtain ⟨R, hR, hRl⟩ := rFrom_ends (gNorm g) 0 (-1) 50 (gNorm_pts g) (by rw [gNorm_len]; omega)
    rw [gNorm_len] at hRl
    obtain ⟨ws, hws⟩ := ws_ends g h40
    obtain ⟨d, d1, d2, d3, d4⟩ := doms_same g F R ws hF h40 hR hRl hws
    have HO : ∀ W, Ext w W → Calls Try.prog 24 #[.slice ga g.length gc] W fun e w' => ∃ oa oc, e = .returned (.slice oa g.length oc) ∧ RepGB w' (In w') oa (rOv g.length R ws) ∧ Ext W w' := fun W h => over_w ga gc g W 50 60 R ws (hg.ext h) hf h60 (by omega) (by omega) hR hRl hws
    have hOl : (rOv g.length R ws).length = g.length := by simp [rOv]
    have hOr : ∀ l ∈ rOv g.length R ws, l.length = g.length := fun l hl => by
      unfold rOv at hl
      obtain ⟨a, _, rfl⟩ := List.mem_map.1 hl
      exact rOvR_len _ _ _ _
    refine gdoms_main ga g.length gc A1 B1 w (d.map oI) (rOv g.length R ws) R h40 (by rw [List.length_map, d2]) hOl hOr hRl d4 HF ?_ (fun W h => ?_) HO (fun W h => ?_)
    · refine (doms_w ga gc g w 100 d hg hf (by omega) (fun st hst => ?_) d1).mono ?_
      · have := (gWalk_len hst).1; omega
      · rintro e w1 ⟨b, rfl, _, r, x⟩
        exact ⟨b, by rw [d2], by have e : zs (d.map oI) = os d := (by simp [os, zs]); rw [e]; exact r, x⟩
    · rw [d3]
      exact rdoms_w ga gc g.length W (rOv g.length R ws) (by omega) hOl hOr (HO W h)
    · refine (rreach_w ga gc g W 50 60 R (hg.ext h) hf h60 (by omega) (by omega) hR).mono ?_
      rintro e w1 ⟨S, rfl, _, r, x⟩
      exact ⟨S, by rw [hRl], r, x⟩

end Go.Proofs.Ytpfjafjpijmckaa
