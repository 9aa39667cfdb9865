/- GraphWays: any graph. -/
import Derived.Test.YtmhcecofknemkaaGrRo
import Derived.Test.YtmhcecofknemkaaGrLw
import Derived.Test.YtmhcecofknemkaaGrSm
import Derived.Test.YtmhcecofknemkaaGrAw
import Derived.Test.YtmhcecofknemkaaGrCz
import Derived.Test.YtmhcecofknemkaaGrOr
set_option linter.unusedSimpArgs false
set_option linter.unusedVariables false
set_option maxRecDepth 10000
namespace Go.Proofs.Ytmhcecofknemkaa
open Go.RowKit

theorem gPred_D (g : List (List Int)) (D : Nat) (hf : ∀ l ∈ g, l.length ≤ D) : ∀ l ∈ gPreds g, l.length ≤ D * g.length := by
  have h1 : ∀ (n p : Nat) (l : List Int) (ps : List (List Nat)) (M : Nat), (∀ x ∈ ps, x.length ≤ M) → ∀ x ∈ gPredL n p l ps, x.length ≤ M + l.length := by
    intro n p l
    induction l with
    | nil => intro ps M h x hx; exact h x hx
    | cons y r ih =>
      intro ps M h x hx
      rw [gPredL] at hx
      have := ih _ (M + 1) (fun z hz => ?_) x hx
      · simp only [List.length_cons]; omega
      · split at hz
        · rcases List.mem_or_eq_of_mem_set hz with hz | hz
          · have := h z hz; omega
          · subst hz
            rw [List.length_append]
            simp only [List.length_cons, List.length_nil]
            cases hy : ps[y.toNat]? with
            | none => simp [List.getD, hy]
            | some l0 =>
              have := h l0 (List.mem_of_getElem? hy)
              simp [List.getD, hy]
              omega
        · have := h z hz; omega
  have h2 : ∀ (n : Nat) (g : List (List Int)) (p : Nat) (ps : List (List Nat)) (M : Nat), (∀ l ∈ g, l.length ≤ D) → (∀ x ∈ ps, x.length ≤ M) → ∀ x ∈ gPredF n g p ps, x.length ≤ M + D * g.length := by
    intro n g
    induction g with
    | nil => intro p ps M _ h x hx; exact h x hx
    | cons l r ih =>
      intro p ps M hb h x hx
      rw [gPredF] at hx
      have hl := hb l (List.mem_cons_self ..)
      have := ih (p + 1) _ (M + D) (fun l hl => hb l (List.mem_cons_of_mem _ hl)) (fun z hz => Nat.le_trans (h1 n p l ps M h z hz) (by omega)) x hx
      rw [List.length_cons, Nat.mul_succ]
      omega
  intro l hl
  have := h2 g.length g 0 _ 0 hf (fun x hx => by rw [List.eq_of_mem_replicate hx]; simp) l hl
  omega

theorem gFew_few {g : List (List Int)} (h : gFew g = true) : g.length ≤ 40 ∧ ∀ l ∈ g, l.length ≤ 60 := by
  unfold gFew at h
  simp at h
  exact h

set_option maxHeartbeats 2000000 in
theorem ways_few (ga : Option Addr) (gc : Nat) (g : List (List Int)) (w : World) (HF : Calls Try.prog 16 #[.slice ga g.length gc] w fun e w' => e = .returned (.bool false) ∧ w' = w) :
    Calls Try.prog 4 #[.slice ga g.length gc] w fun e w' => e = .returned (.bool true) ∧ Ext w w' := by
  have H1 := hide HF
  have H2 := hide (awake_w w)
  clear HF
  go_enter Try.func4, Try.ntmps4
  go_wp2_with (first
    | (go_at_call 16; refine Calls.mono (unhide H1) ?_; rintro e w1 ⟨rfl, hw⟩; obtain rfl := hw.symm)
    | (go_at_call 15; refine Calls.mono (unhide H2) ?_; rintro e w1 ⟨rfl, x1⟩; have X1 := hide x1; clear x1))
  go_ret
  exact ⟨rfl, unhide X1⟩

set_option maxHeartbeats 4000000 in
theorem ways_main (ga : Option Addr) (gc : Nat) (n : Nat) (w : World) (PS : List (List Nat)) (hPS : PS.length = n) (hPb : ∀ l ∈ PS, l.length ≤ 1000000) (SH : List Bool) (hSH : SH.length = n) (O : List Int) (m : Nat) (hO : O.length = m) (hm : m ≤ 1000000) (hn : n ≤ 40)
    (HF : Calls Try.prog 16 #[.slice ga n gc] w fun e w' => e = .returned (.bool true) ∧ w' = w)
    (HP : ∀ W, Ext w W → Calls Try.prog 17 #[.slice ga n gc] W fun e w' => ∃ w1 P ads, e = .returned (slV P n) ∧ Ext W w1 ∧ RwS w1 w' P PS ads)
    (HQ : ∀ W, Ext w W → Calls Try.prog 18 #[.slice ga n gc] W fun e w' => ∃ w1 P ads, e = .returned (slV P n) ∧ Ext W w1 ∧ RwS w1 w' P PS ads)
    (HR : ∀ W, Ext w W → Calls Try.prog 20 #[.slice ga n gc] W fun e w' => ∃ S, e = .returned (slV S n) ∧ Row w' S 4 (bsV SH) ∧ Ext W w')
    (HS : ∀ W, Ext w W → Calls Try.prog 21 #[.slice ga n gc] W fun e w' => ∃ S, e = .returned (slV S n) ∧ Row w' S 4 (bsV SH) ∧ Ext W w')
    (HO : ∀ W, Ext w W → Calls Try.prog 10 #[.slice ga n gc] W fun e w' => ∃ a c, e = .returned (.slice a m c) ∧ RepI w' (In w') a O ∧ Ext W w')
    (HOr : ∀ W, Ext w W → Calls Try.prog 22 #[.slice ga n gc] W fun e w' => ∃ a c, e = .returned (.slice a m c) ∧ RepI w' (In w') a O ∧ Ext W w') :
    Calls Try.prog 4 #[.slice ga n gc] w fun e w' => e = .returned (.bool true) ∧ Ext w w' := by
  have HF := hide HF
  have HP := hide HP
  have HQ := hide HQ
  have HR := hide HR
  have HS := hide HS
  have HO := hide HO
  have HOr := hide HOr
  have HA := hide awake_w
  have HPb := hide hPb
  have HPS := hide hPS
  have HB : Hd (∀ (W : World) (a b : Nat), Row W a 4 (bsV SH) → Row W b 4 (bsV SH) → Calls Try.prog 19 #[slV a n, slV b n] W fun e w' => e = .returned (.bool true) ∧ Ext W w') := fun W a b h1 h2 => by
    have := bools_w SH a b n n W h1 h2 (by omega)
    rw [hSH] at this
    exact this
  have HI : Hd (∀ (W : World) (a b : Option Addr) (ca cb : Nat), RepI W (In W) a O → RepI W (In W) b O → Calls Try.prog 11 #[.slice a m ca, .slice b m cb] W fun e w' => e = .returned (.bool true) ∧ Ext W w') := fun W a b ca cb h1 h2 => by
    have := sameInts_w O a b ca cb _ _ W h1 h2 (by omega)
    rw [hO] at this
    exact this
  have HL : Hd (∀ (W : World) (l : List Nat) (a b : Option Addr) (ca cb : Nat), l.length ≤ 1000000 → RepI W (In W) a (zN l) → RepI W (In W) b (zN l) → Calls Try.prog 11 #[.slice a l.length ca, .slice b l.length cb] W fun e w' => e = .returned (.bool true) ∧ Ext W w') := fun W l a b ca cb hl h1 h2 => by
    have := sameInts_w (zN l) a b ca cb _ _ W h1 h2 (by simp; exact hl)
    simpa using this
  clear hPb hSH hO hPS
  go_enter Try.func4, Try.ntmps4
  go_wp2_with (first
    | (go_at_call 16; refine Calls.mono (unhide HF) ?_; rintro e w0 ⟨rfl, hw⟩; obtain rfl := hw.symm)
    | (go_at_call 17; refine Calls.mono (unhide HP w (Ext.refl _)) ?_; rintro e w1 ⟨wp, P, adp, rfl, xp, sp⟩; have SP := hide sp; have X1 : Hd (Ext w w1) := xp.trans sp.ext; clear xp sp)
    | (go_at_call 18; refine Calls.mono (unhide HQ w1 (unhide X1)) ?_; rintro e w2 ⟨wq, R, adq, rfl, xq, sq⟩; have SQ := hide sq; have SP2 := hide ((unhide SP).on (xq.trans sq.ext)); have X2 : Hd (Ext w w2) := (unhide X1).trans (xq.trans sq.ext); clear xq sq))
  clear SP X1
  go_loopw [5] (fun t wr => ∃ (i : Nat), t = .int .i64 (i : Int) ∧ i ≤ n ∧ Hd (Ext w2 wr)) (fun t _ => n - (intOf t).toNat)
  case atStart => exact ⟨0, rfl, by omega, Ext.refl _⟩
  case round =>
    obtain ⟨i, rfl, hi, hX⟩ := hrel
    by_cases hlt : i < n
    · obtain ⟨l, hl⟩ : ∃ l, PS[i]? = some l := ⟨_, List.getElem?_eq_getElem (by rw [unhide HPS]; exact hlt)⟩
      obtain ⟨⟨a1, c1⟩, ha1, q1⟩ := (unhide SP2).at hl
      obtain ⟨⟨a2, c2⟩, ha2, q2⟩ := (unhide SQ).at hl
      have r1 := hide (((unhide SP2).row hl ha1).ext (unhide hX))
      have r2 := hide (((unhide SQ).row hl ha2).ext (unhide hX))
      have q1 := (unhide hX).cell q1
      have q2 := (unhide hX).cell q2
      simp only at q1 q2
      have hll := unhide HPb l (List.mem_of_getElem? hl)
      have hlt' : (i : Int) < (n : Int) := by omega
      clear hl ha1 ha2
      go_wp2_with fail
      go_still_tail 8, (by kernel_rfl)
      change wpList _ _ _ _ _ (World.drew wr)
      go_wp2_with (go_at_call 11; refine Calls.mono (unhide HL wr.drew l _ _ _ _ hll ((unhide r1).ext (Ext.drew (Ext.refl _))) ((unhide r2).ext (Ext.drew (Ext.refl _)))) ?_; rintro e w3 ⟨rfl, x3⟩; have X3 : Hd (Ext w2 w3) := (unhide hX).trans ((Ext.drew (Ext.refl _)).trans x3); clear x3)
      go_roundw
      case rel => exact ⟨i + 1, by go_num, by omega, X3⟩
      case measure => simp [intOf]; omega
    · obtain rfl : i = n := by omega
      have X3 : Hd (Ext w wr) := (unhide X2).trans (unhide hX)
      clear X2 SP2 SQ
      go_wp2_with (first
        | (go_at_call 20; refine Calls.mono (unhide HR wr (unhide X3)) ?_; rintro e w4 ⟨S, rfl, r4, x4⟩; have R4 := hide r4; have X4 : Hd (Ext w w4) := (unhide X3).trans x4; clear r4 x4)
        | (go_at_call 21; refine Calls.mono (unhide HS w4 (unhide X4)) ?_; rintro e w5 ⟨S2, rfl, r5, x5⟩; have R5 := hide r5; have R4' := hide ((unhide R4).on x5); have X5 : Hd (Ext w w5) := (unhide X4).trans x5; clear r5 x5)
        | (go_at_call 19; refine Calls.mono (unhide HB w5 S S2 (unhide R4') (unhide R5)) ?_; rintro e w6 ⟨rfl, x6⟩; have X6 : Hd (Ext w w6) := (unhide X5).trans x6; clear x6)
        | (go_at_call 10; refine Calls.mono (unhide HO w6 (unhide X6)) ?_; rintro e w7 ⟨oa, oc, rfl, r7, x7⟩; have R7 := hide r7; have X7 : Hd (Ext w w7) := (unhide X6).trans x7; clear r7 x7)
        | (go_at_call 22; refine Calls.mono (unhide HOr w7 (unhide X7)) ?_; rintro e w8 ⟨pa, pc, rfl, r8, x8⟩; have R8 := hide r8; have R7' := hide ((unhide R7).ext x8); have X8 : Hd (Ext w w8) := (unhide X7).trans x8; clear r8 x8)
        | (go_at_call 11; refine Calls.mono (unhide HI w8 oa pa oc pc (unhide R7') (unhide R8)) ?_; rintro e w9 ⟨rfl, x9⟩; have X9 : Hd (Ext w w9) := (unhide X8).trans x9; clear x9)
        | (go_at_call 15; refine Calls.mono (unhide HA w9) ?_; rintro e w10 ⟨rfl, x10⟩; have X10 : Hd (Ext w w10) := (unhide X9).trans x10; clear x10))
      go_ret
      exact ⟨rfl, unhide X10⟩

/-- Any graph. -/
theorem ways_walk (ga : Option Addr) (gc : Nat) (g : List (List Int)) (w : World) (hg : RepG w (In w) ga g) (hm : g.length ≤ maxLen) (hb : ∀ l ∈ g, l.length ≤ maxLen) :
    Calls Try.prog 4 #[.slice ga g.length gc] w fun e w' => e = .returned (.bool true) ∧ Ext w w' := by
  have HF := few_w ga gc g w hg (by unfold maxLen at hm; omega) (fun l hl => by have := hb l hl; unfold maxLen at this; omega)
  cases hfw : gFew g with
  | false => rw [hfw] at HF; exact ways_few ga gc g w HF
  | true =>
    rw [hfw] at HF
    obtain ⟨h40, h60⟩ := gFew_few hfw
    have hf : Few g := ⟨by omega, fun l hl => Nat.le_trans (h60 l hl) (by omega)⟩
    obtain ⟨F, hF, hW⟩ := gWalk_ends g 100 (by omega)
    obtain ⟨R, hR, hRl⟩ := rFrom_ends (gNorm g) 0 (-1) 50 (gNorm_pts g) (by rw [gNorm_len]; omega)
    rw [gNorm_len] at hRl
    have hsh := gWalk_reach g 100 50 F R hF hR hRl
    have hln := (gWalk_len hF).2
    have hpl : (gPreds g).length = g.length := by unfold gPreds; rw [gPredF_len]; simp
    refine ways_main ga gc g.length w (gPreds g) hpl ?_ R hRl (F.left.reverse.map (fun (x : Nat) => (x : Int))) F.left.length (by simp) (by omega) h40 HF (fun W h => ?_) (fun W h => ?_) (fun W h => ?_) (fun W h => ?_) (fun W h => ?_) (fun W h => ?_)
    · intro l hl
      have h1 := gPred_D g 60 h60 l hl
      have h2 : 60 * g.length ≤ 60 * 40 := Nat.mul_le_mul_left _ h40
      omega
    · refine (preds_w ga gc g W (hg.ext h) hf).mono ?_
      rintro e w1 ⟨P, ads, rfl, s⟩
      exact ⟨W, P, ads, by rw [hpl], Ext.refl _, s⟩
    · refine (rpreds_w ga gc g W (hg.ext h) hf).mono ?_
      rw [← gPreds_r]
      rintro e w1 ⟨wa, P, ads, rfl, x, s⟩
      exact ⟨wa, P, ads, by rw [hpl], x, s⟩
    · refine (reach_w ga gc g W 100 F (hg.ext h) hf (by omega) hF).mono ?_
      rintro e w1 ⟨S, rfl, _, r, _, x⟩
      exact ⟨S, rfl, by rw [← hsh]; exact r, x⟩
    · refine (rreach_w ga gc g W 50 60 R (hg.ext h) hf h60 (by omega) (by omega) hR).mono ?_
      rintro e w1 ⟨S, rfl, _, r, x⟩
      exact ⟨S, by rw [hRl], r, x⟩
    · refine (order_w ga gc g W 100 F (hg.ext h) hf (by omega) hF).mono ?_
      rintro e w1 ⟨a, c, rfl, r, x⟩
      exact ⟨a, c, rfl, r, x⟩
    · by_cases h0 : g.length = 0
      · have : F.left = [] := by
          unfold gWalk at hF
          rw [if_pos h0] at hF
          injection hF with hF
          rw [← hF]
          rfl
        rw [this, h0]
        refine (rorder_nil ga gc W).mono ?_
        rintro e w1 ⟨a, c, rfl, x, r⟩
        exact ⟨a, c, rfl, r, x⟩
      · obtain ⟨k, on1, hk⟩ := gWalk_order g 100 F h0 hF
        refine (rorder_w ga gc g W k on1 _ (hg.ext h) hf h0 hk).mono ?_
        rintro e w1 ⟨a, c, rfl, x, r⟩
        exact ⟨a, c, by rw [List.length_reverse], r, x⟩

end Go.Proofs.Ytmhcecofknemkaa
