/- What is asked of the package color; the walk of the law ColorAssigns. -/
import Derived.Test.YtjopfpchbakggaaCoA
import Derived.Test.YtjopfpchbakggaaCoSg
set_option linter.unusedSimpArgs false
set_option linter.unusedVariables false
set_option maxRecDepth 10000
namespace Go.Proofs.Ytjopfpchbakggaa
open Go.RowKit

/-- Intervals in order, with registers of their own, not too great. -/
structure IvGood (L : List Iv) : Prop where
  ok : IvOk L
  rg : ∀ j k : Nat, j < k → k < L.length → (ivA L j).r ≠ (ivA L k).r
  bd : ∀ k : Nat, k < L.length → (0 ≤ (ivA L k).r ∧ (ivA L k).r ≤ 100000) ∧ (0 ≤ (ivA L k).s ∧ (ivA L k).s ≤ 100000) ∧ (0 ≤ (ivA L k).e ∧ (ivA L k).e ≤ 100000)
theorem ivsP_good (l : List T3) (n : Nat) (hn : n ≤ 1000) : IvGood (ivsP l n) := by
  refine ⟨ivsP_ok l n, fun j k h hk => ?_, fun k hk => ?_⟩
  · rw [ivsP_len] at hk
    rw [ivsP_at (by omega), ivsP_at hk]
    show (j : Int) ≠ (k : Int)
    omega
  · rw [ivsP_len] at hk
    rw [ivsP_at hk]
    have h1 := atP_le l (k + 1)
    have h2 := (m31_eq (rwA l k).2.2).2
    refine ⟨⟨by show (0 : Int) ≤ (k : Int); omega, by show (k : Int) ≤ 100000; omega⟩, ⟨by show (0 : Int) ≤ (atP l (k + 1) : Int); omega, by show (atP l (k + 1) : Int) ≤ 100000; omega⟩, by show (0 : Int) ≤ ((atP l (k + 1) + m31 (rwA l k).2.2 : Nat) : Int); omega, by show ((atP l (k + 1) + m31 (rwA l k).2.2 : Nat) : Int) ≤ 100000; omega⟩
/-- Assign answers what the plain functions give. -/
def CasIs : Prop := ∀ (L : List Iv) (n : Int) (a : Option Addr) (cap : Nat) (w : World), L.length ≤ 1000 → IvGood L → 0 ≤ n → n ≤ 1000 → RepI w (In w) a (tpI (ivT L)) → Calls Try.prog 6 #[.slice a L.length cap, .int .i64 n] w fun e w' => ∃ pa pc, e = .returned (.slice pa L.length pc) ∧ RepI w' (In w') pa (tpI (plT L (cAsg L n.toNat).o)) ∧ Ext w w'
def SlotsIs : Prop := ∀ (T : List T3) (a : Option Addr) (cap : Nat) (w : World), T.length ≤ 1000 → SlOk T → RepI w (In w) a (tpI T) → Calls Try.prog 7 #[.slice a T.length cap] w fun e w' => e = .returned (.int .i64 (cntS T T.length : Int)) ∧ Ext w w'
def OverIs : Prop := ∀ (x y : Iv) (w : World), x.s ≤ x.e → y.s ≤ y.e → Calls Try.prog 11 #[.agg #[.int .i64 x.r, .int .i64 x.s, .int .i64 x.e], .agg #[.int .i64 y.r, .int .i64 y.s, .int .i64 y.e]] w fun e w' => e = .returned (.bool (decide (x.s ≤ y.e) && decide (y.s ≤ x.e))) ∧ Ext w w'
def AwkIs : Prop := ∀ W, Calls Try.prog 8 #[] W fun e w' => e = .returned (.bool true) ∧ Ext W w'
theorem row_rep {w : World} {b : Nat} {t : TypeId} {T : List T3} (h : Row w b t (tpV T)) : RepI w (In w) (some ⟨b, 0, none⟩) (tpI T) :=
  Or.inr ⟨b, 0, rfl, k_lt h, fun j x hx => by rw [Nat.zero_add]; exact h.cell j (by rw [tpV_map, List.getElem?_map, hx]; rfl)⟩

set_option maxHeartbeats 1500000 in
theorem assigns_w (l : List T3) (n : Int) (a : Option Addr) (cap : Nat) (w : World) (hl : l.length ≤ 80) (hr : RepI w (In w) a (tpI l)) (HC : Hd CasIs) (HS : Hd SlotsIs) (HA : Hd AwkIs) : Calls Try.prog 4 #[.slice a l.length cap, .int .i64 n] w fun e w' => e = .returned (.bool true) ∧ Ext w w' := by
  obtain ⟨k, hk, hk15⟩ := mask_lt n 15 (by omega)
  have hk : bits .and .i64 n 15 = (k : Int) := hk
  have hl2 : ¬ 80 < (l.length : Int) := by omega
  have HRw := hide (fun (_ : Unit) => rows_w l a cap w (by omega) hr)
  obtain ⟨L, hL⟩ : ∃ L, L = ivsP l l.length := ⟨_, rfl⟩
  have hLl : L.length = l.length := by rw [hL, ivsP_len]
  have hG : IvGood L := by rw [hL]; exact ivsP_good l _ (by omega)
  rw [← hL, ← hLl] at HRw
  have H1 := hide (fun (W : World) (aa : Option Addr) (ac : Nat) (h : RepI W (In W) aa (tpI (ivT L))) => unhide HC L k aa ac W (by omega) hG (by omega) (by omega) h)
  have H2 := hide (fun (W : World) (aa : Option Addr) (ac : Nat) (h : RepI W (In W) aa (tpI (ivT L))) => rassign_w L k aa ac W (by omega) hG.ok (by omega) h)
  rw [← hLl]
  have hLb : L.length ≤ 80 := by omega
  rw [← hLl] at hl2
  obtain ⟨T, hT⟩ : ∃ T, T = plT L (cAsg L ((k : Int)).toNat).o := ⟨_, rfl⟩
  have hTl : T.length = L.length := by rw [hT, plT_len]
  have HSo := hide (show SlOk T by rw [hT]; exact slOk_asg hG.ok (by omega) _)
  rw [← hT] at H1 H2
  clear hr hL hLl hG hl hT
  go_enter Try.func4, Try.ntmps4
  go_wp2_with (first
    | (go_at_call 9; refine Calls.mono (unhide HRw ()) ?_; rintro e w1 ⟨aa, ac, ba, bc, rfl, hra, hrb, hx⟩; have RA := hide hra; have RB := hide hrb; have X1 := hide hx; clear hra hrb hx)
    | (go_at_call 6; refine Calls.mono (unhide H1 _ _ _ (unhide RA)) ?_; rintro e w2 ⟨pa, pc, rfl, hrp, hx⟩; have RP := hide hrp; have RB2 := hide ((unhide RB).ext hx); have X2 := hide ((unhide X1).trans hx); clear hrp hx)
    | (go_at_call 10; refine Calls.mono (unhide H2 _ _ _ (unhide RB2)) ?_; rintro e w3 ⟨rfl, hrq, hx⟩; have RQ := hide (row_rep hrq); have RP3 := hide ((unhide RP).ext hx); have X3 := hide ((unhide X2).trans hx); clear hrq hx))
  have HS3 := hide (fun (W : World) (h : RepI W (In W) pa (tpI T)) => unhide HS T pa pc W (by omega) (unhide HSo) h)
  rw [hTl] at HS3
  go_loopw [9, 10] (fun t9 t10 wr => ∃ (i : Nat), t10 = .int .i64 i ∧ t9 = .int .i64 (cntS T i : Int) ∧ i ≤ L.length ∧ Hd (Ext w3 wr)) (fun _ t10 _ => L.length - (intOf t10).toNat)
  case atStart => exact ⟨0, rfl, rfl, by omega, Ext.refl _⟩
  case round =>
    obtain ⟨i, rfl, rfl, hi, hX⟩ := hrel
    by_cases hlt : i < L.length
    · have hlt2 : (i : Int) < (L.length : Int) := by omega
      obtain ⟨t, ht⟩ : ∃ t, T[i]? = some t := ⟨_, List.getElem?_eq_getElem (by omega)⟩
      have hrw : rwA T i = t := by unfold rwA; rw [ht]; rfl
      obtain ⟨p0, p1, p2⟩ := tpI_at ht
      have hrp := (unhide RP3).ext (unhide hX)
      have hrq := (unhide RQ).ext (unhide hX)
      obtain ⟨pb, po, rfl, _, x0⟩ := hrp.at p0
      obtain ⟨pb', po', e1, _, x1⟩ := hrp.at p1
      injection e1 with e1; injection e1 with e1 e2; subst e1 e2
      obtain ⟨pb', po', e1, _, x2⟩ := hrp.at p2
      injection e1 with e1; injection e1 with e1 e2; subst e1 e2
      obtain ⟨qb', qo', e1, _, y0⟩ := hrq.at p0
      injection e1 with e1; injection e1 with e1 e2; subst e1 e2
      obtain ⟨qb', qo', e1, _, y1⟩ := hrq.at p1
      injection e1 with e1; injection e1 with e1 e2; subst e1 e2
      obtain ⟨qb', qo', e1, _, y2⟩ := hrq.at p2
      injection e1 with e1; injection e1 with e1 e2; subst e1 e2
      simp only [← Nat.add_assoc, Nat.zero_add] at x0 x1 x2 y0 y1 y2
      have hne : Nonempty (RGw wr) := ⟨⟨wr, Ext.refl _⟩⟩
      have vx0 := fun y : RGw wr => y.h.cell x0
      have vx1 := fun y : RGw wr => y.h.cell x1
      have vx2 := fun y : RGw wr => y.h.cell x2
      have vy0 := fun y : RGw wr => y.h.cell y0
      have vy1 := fun y : RGw wr => y.h.cell y1
      have vy2 := fun y : RGw wr => y.h.cell y2
      have hcs : cntS T (i + 1) = cntS T i + if 0 ≤ t.2.2 then 1 else 0 := by rw [cntS, hrw]
      have hcb := cntS_le T i
      have HCs := hide hcs
      clear hrp hrq p0 p1 p2 ht hrw hcs
      go_wp2_with fail
      refine wp_region_rx (W := wr) (by kernel_rfl) (by kernel_rfl) (Ext.refl _) ?_
      repeat (go_big_quiet_step (fail))
      refine wpQuiet_nil ?_
      rintro w4 ⟨⟨_, hx4⟩, rfl⟩
      have X4 := hide ((unhide hX).trans hx4)
      have z2 := hx4.cell y2
      clear vx0 vx1 vx2 vy0 vy1 vy2 x0 x1 x2 y0 y1 y2 hx4
      by_cases hsl : 0 ≤ t.2.2
      · have HCt : Hd (cntS T (i + 1) = cntS T i + 1) := hide (by have h := unhide HCs; rw [if_pos hsl] at h; exact h)
        go_wp2_with fail
        go_roundw
        case rel => exact ⟨i + 1, by go_num, by rw [unhide HCt]; go_num, by omega, X4⟩
        case measure => simp [intOf]; omega
      · have HCt : Hd (cntS T (i + 1) = cntS T i) := hide (by have h := unhide HCs; rw [if_neg hsl] at h; exact h)
        go_wp2_with fail
        go_roundw
        case rel => exact ⟨i + 1, by go_num, by rw [unhide HCt], by omega, X4⟩
        case measure => simp [intOf]; omega
    · have hie : i = L.length := by omega
      have hlt2 : ¬ (i : Int) < (L.length : Int) := by omega
      subst hie
      clear hlt hi
      go_wp2_with (first
        | (go_at_call 7; refine Calls.mono (unhide HS3 _ ((unhide RP3).ext (unhide hX))) ?_; rintro e w5 ⟨rfl, hx⟩; have X5 := hide ((unhide hX).trans hx); clear hx)
        | (go_at_call 8; refine Calls.mono (unhide HA _) ?_; rintro e w6 ⟨rfl, hx⟩; have X6 := hide ((unhide X5).trans hx); clear hx))
      go_ret
      exact ⟨rfl, (unhide X3).trans (unhide X6)⟩

end Go.Proofs.Ytjopfpchbakggaa
