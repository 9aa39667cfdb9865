/- GraphLoops: any graph. -/
import Derived.Test.YtpfjafjpijmckaaGrLl
import Derived.Test.YtpfjafjpijmckaaLawGd
import Derived.Test.YtpfjafjpijmckaaGrSz
set_option linter.unusedSimpArgs false
set_option linter.unusedVariables false
set_option maxRecDepth 10000
namespace Go.Proofs.Ytpfjafjpijmckaa
open Go.RowKit

theorem gPred_Dl (g : List (List Int)) (D : Nat) (hf : ∀ l ∈ g, l.length ≤ D) : ∀ l ∈ gPreds g, l.length ≤ D * g.length := by
  have h1 : ∀ (n p : Nat) (l : List Int) (ps : List (List Nat)) (M : Nat), (∀ x ∈ ps, x.length ≤ M) → ∀ x ∈ gPredL n p l ps, x.length ≤ M + l.length := by
    intro n p l
    induction l with
    | nil => intro ps M h x hx; exact h x hx
    | cons y r ih =>
      intro ps M h x hx
      rw [gPredL] at hx
      have := ih _ (M + 1) (fun z hz => ?_) x hx
      · simp only [List.length_cons]; omega
      · split at hz
        · rcases List.mem_or_eq_of_mem_set hz with hz | hz
          · have := h z hz; omega
          · subst hz
            rw [List.length_append]
            simp only [List.length_cons, List.length_nil]
            cases hy : ps[y.toNat]? with
            | none => simp [List.getD, hy]
            | some l0 =>
              have := h l0 (List.mem_of_getElem? hy)
              simp [List.getD, hy]
              omega
        · have := h z hz; omega
  have h2 : ∀ (n : Nat) (g : List (List Int)) (p : Nat) (ps : List (List Nat)) (M : Nat), (∀ l ∈ g, l.length ≤ D) → (∀ x ∈ ps, x.length ≤ M) → ∀ x ∈ gPredF n g p ps, x.length ≤ M + D * g.length := by
    intro n g
    induction g with
    | nil => intro p ps M _ h x hx; exact h x hx
    | cons l r ih =>
      intro p ps M hb h x hx
      rw [gPredF] at hx
      have hl := hb l (List.mem_cons_self ..)
      have := ih (p + 1) _ (M + D) (fun l hl => hb l (List.mem_cons_of_mem _ hl)) (fun z hz => Nat.le_trans (h1 n p l ps M h z hz) (by omega)) x hx
      rw [List.length_cons, Nat.mul_succ]
      omega
  intro l hl
  have := h2 g.length g 0 _ 0 hf (fun x hx => by rw [List.eq_of_mem_replicate hx]; simp) l hl
  omega

set_option maxHeartbeats 2000000 in
theorem gloops_few (ga : Option Addr) (n gc : Nat) (w : World) (HF : Calls Try.prog 16 #[.slice ga n gc] w fun e w' => e = .returned (.bool false) ∧ w' = w) :
    Calls Try.prog 6 #[.slice ga n gc] w fun e w' => e = .returned (.bool true) ∧ Ext w w' := by
  have H1 := hide HF
  have H2 := hide (awake_w w)
  clear HF
  go_enter Try.func6, Try.ntmps6
  go_wp2_with (first
    | (go_at_call 16; refine Calls.mono (unhide H1) ?_; rintro e w1 ⟨rfl, hw⟩; obtain rfl := hw.symm)
    | (go_at_call 15; refine Calls.mono (unhide H2) ?_; rintro e w1 ⟨rfl, x1⟩; have X1 := hide x1; clear x1))
  go_ret
  exact ⟨rfl, unhide X1⟩

set_option maxHeartbeats 8000000 in
theorem gloops_main (ga : Option Addr) (n gc : Nat) (w : World) (LS : List GL) (hn : LS.length ≤ 40) (hbd : ∀ x ∈ LS, x.body.length ≤ 1000000)
    (HF : Calls Try.prog 16 #[.slice ga n gc] w fun e w' => e = .returned (.bool true) ∧ w' = w)
    (HL : Calls Try.prog 12 #[.slice ga n gc] w (LoopsE w LS))
    (HRL : ∀ W, Ext w W → Calls Try.prog 25 #[.slice ga n gc] W fun e w' => ∃ w2 ads la lc, e = .returned (.slice la LS.length lc) ∧ Ext W w2 ∧ GbL w2 w' LS ads la lc) :
    Calls Try.prog 6 #[.slice ga n gc] w fun e w' => e = .returned (.bool true) ∧ Ext w w' := by
  have HF := hide HF
  have HL := hide HL
  have HRL := hide HRL
  have HA := hide awake_w
  have HBd := hide hbd
  clear hbd
  go_enter Try.func6, Try.ntmps6
  go_wp2_with (first
    | (go_at_call 16; refine Calls.mono (unhide HF) ?_; rintro e w1 ⟨rfl, hw⟩; obtain rfl := hw.symm)
    | (go_at_call 12; refine Calls.mono (unhide HL) ?_; rintro e w2 ⟨u0, pb, pl, ads, la, lc, rfl, x2, s2⟩; have S2 := hide s2; have X2 := hide (x2.trans s2.ext); clear x2 s2)
    | (go_at_call 25; refine Calls.mono (unhide HRL w2 (unhide X2)) ?_; rintro e w3 ⟨u1, ads2, la2, lc2, rfl, x3, s3⟩; have S3 := hide s3; have S2' := hide ((unhide S2).on (x3.trans s3.ext)); have X3 : Hd (Ext w w3) := (unhide X2).trans (x3.trans s3.ext); clear x3 s3))
  clear HF HL HRL S2 X2
  go_loopw [5] (fun t wr => ∃ (i : Nat), t = .int .i64 (i : Int) ∧ i ≤ LS.length ∧ Hd (Ext w3 wr)) (fun t _ => LS.length - (intOf t).toNat)
  case atStart => exact ⟨0, rfl, by omega, Ext.refl _⟩
  case round =>
    obtain ⟨i, rfl, hi, hX⟩ := hrel
    by_cases hli : i < LS.length
    · have hli2 : (i : Int) < (LS.length : Int) := by omega
      have hne : Nonempty (RGw wr) := ⟨⟨wr, Ext.refl _⟩⟩
      obtain ⟨x, hx⟩ : ∃ x, LS[i]? = some x := ⟨_, List.getElem?_eq_getElem hli⟩
      obtain ⟨g1, a1, e1, l1, ha1, c0, c1, c2, _⟩ := (unhide S2').at hx
      subst e1
      obtain ⟨g2, a2, e2, l2, _, _, d0, d1, d2, _, r2⟩ := (unhide S3).at hx
      subst e2
      have r1 := own_repI ((unhide S2').own i x a1 hx ha1)
      have HS : Hd (∀ v : RGw wr, Calls Try.prog 11 #[.slice a1.1 x.body.length a1.2, .slice a2.1 x.body.length a2.2] v.w fun e w' => e = .returned (.bool true) ∧ Ext v.w w') := fun v => by
        have := sameInts_w (x.body.map (fun (x : Nat) => (x : Int))) a1.1 a2.1 a1.2 a2.2 _ _ v.w (r1.ext ((unhide hX).trans v.h)) (r2.ext ((unhide hX).trans v.h)) (by rw [List.length_map]; exact unhide HBd x (List.mem_of_getElem? hx))
        rw [List.length_map] at this
        exact this
      have k0 : ∀ v : RGw wr, v.w.cell? ⟨g1, i * 3, none⟩ = some (.int .i64 (x.head : Int)) := fun v => v.h.cell ((unhide hX).cell c0)
      have k1 : ∀ v : RGw wr, v.w.cell? ⟨g1, i * 3 + 1, none⟩ = some (.slice a1.1 x.body.length a1.2) := fun v => v.h.cell ((unhide hX).cell c1)
      have k2 : ∀ v : RGw wr, v.w.cell? ⟨g1, i * 3 + 2, none⟩ = some (.int .i64 (oI x.ins)) := fun v => v.h.cell ((unhide hX).cell c2)
      have q0 : ∀ v : RGw wr, v.w.cell? ⟨g2, i * 3, none⟩ = some (.int .i64 (x.head : Int)) := fun v => v.h.cell ((unhide hX).cell d0)
      have q1 : ∀ v : RGw wr, v.w.cell? ⟨g2, i * 3 + 1, none⟩ = some (.slice a2.1 x.body.length a2.2) := fun v => v.h.cell ((unhide hX).cell d1)
      have q2 : ∀ v : RGw wr, v.w.cell? ⟨g2, i * 3 + 2, none⟩ = some (.int .i64 (oI x.ins)) := fun v => v.h.cell ((unhide hX).cell d2)
      clear c0 c1 c2 d0 d1 d2 r1 r2 ha1 hx
      generalize (x.head : Int) = hd at k0 q0
      generalize oI x.ins = hi2 at k2 q2
      generalize x.body.length = bl at k1 q1 HS
      have z1 : (hd == hd) = true := by simp
      have z2 : (hi2 == hi2) = true := by simp
      go_wp2_with fail
      refine wp_region_rx (W := wr) (by kernel_rfl) (by kernel_rfl) (Ext.refl _) ?_
      try simp only [List.append_eq, List.cons_append, List.nil_append]
      repeat (go_big_quiet_step ((go_at_call 11; exact Calls.rx_of _ _ (unhide HS _))))
      refine wpQuiet_nil ?_
      rintro _ ⟨⟨w7, hx7⟩, rfl⟩
      have HX7 := hide hx7
      clear hx7
      go_wp2_with fail
      go_roundw
      case rel => exact ⟨i + 1, by go_num, by omega, (unhide hX).trans (unhide HX7)⟩
      case measure => simp [intOf]; omega
    · obtain rfl : i = LS.length := by omega
      have HXw : Hd (Ext w wr) := (unhide X3).trans (unhide hX)
      clear S2' S3 X3 hX
      go_wp2_with (go_at_call 15; refine Calls.mono (unhide HA wr) ?_; rintro e w9 ⟨rfl, x9⟩; have X9 : Hd (Ext w w9) := (unhide HXw).trans x9; clear x9)
      go_ret
      exact ⟨rfl, unhide X9⟩

/-- What both tell of loops. -/
theorem loops_same (g : List (List Int)) (F : GW) (R : List Bool) (ws : List (List Bool)) (T : Nat → Nat → List Bool) (hF : gWalk g 100 = some F) (h40 : g.length ≤ 40) (hR : rFrom (gNorm g) 0 (-1) 50 = some R) (hRl : R.length = g.length) (hws : ∀ a : Nat, a < g.length → ∃ W, ws[a]? = some W ∧ rFrom (gNorm g) 0 (a : Int) 50 = some W ∧ W.length = g.length)
    (hT : ∀ p h : Nat, rFrom (gNorm g) (p : Int) (h : Int) 50 = some (T p h)) (B : Nat → Nat → Bool) (hB : B = fun h p => rInC (rTls (gNorm g) (oFn (rOv g.length R ws)) h) (oFn (rOv g.length R ws)) (T p h) h p) (hb : Nat → Bool) (hhb : hb = rHb (gNorm g) (oFn (rOv g.length R ws))) :
    gLoops g 100 = some (rLps g.length ((List.range g.length).filter hb) B) := by
  by_cases h0 : g.length = 0
  · obtain rfl : g = [] := List.length_eq_zero_iff.1 h0
    rfl
  · obtain ⟨D, hs, hW⟩ := gWalk_dfs g 100 F h0 hF
    have hsh := gWalk_reach g 100 50 F R hF hR hRl
    rw [hsh] at hs
    have hov := ov_ok g F.met R ws hs (fun a ha => by
      obtain ⟨W, w1, w2, _⟩ := hws a ha
      exact ⟨50, W, w1, w2⟩)
    refine gLoops_doc g 100 F h0 hF (by omega) (by omega) hb (fun h hh => ?_) B (fun h p hd hp => ?_)
    · rw [hhb]
      exact rHb_iff D _ hov h hh
    · rw [hB]
      exact rInC_iff D _ hov h p hd hp 50 (T p h) (hT p h)

/-- Any graph. -/
theorem gloops_walk (ga : Option Addr) (gc : Nat) (g : List (List Int)) (w : World) (hg : RepG w (In w) ga g) (hm : g.length ≤ maxLen) (hb : ∀ l ∈ g, l.length ≤ maxLen) :
    Calls Try.prog 6 #[.slice ga g.length gc] w fun e w' => e = .returned (.bool true) ∧ Ext w w' := by
  have HF := few_w ga gc g w hg (by unfold maxLen at hm; omega) (fun l hl => by have := hb l hl; unfold maxLen at this; omega)
  cases hfw : gFew g with
  | false => rw [hfw] at HF; exact gloops_few ga g.length gc w HF
  | true =>
    rw [hfw] at HF
    obtain ⟨h40, h60⟩ := gFew_few hfw
    have hf : Few g := ⟨by omega, fun l hl => Nat.le_trans (h60 l hl) (by omega)⟩
    obtain ⟨F, hF, hW⟩ := gWalk_ends g 100 (by omega)
    obtain ⟨R, hR, hRl⟩ := rFrom_ends (gNorm g) 0 (-1) 50 (gNorm_pts g) (by rw [gNorm_len]; omega)
    rw [gNorm_len] at hRl
    obtain ⟨ws, hws⟩ := ws_ends g h40
    have HO : ∀ W, Ext w W → Calls Try.prog 24 #[.slice ga g.length gc] W fun e w' => ∃ oa oc, e = .returned (.slice oa g.length oc) ∧ RepGB w' (In w') oa (rOv g.length R ws) ∧ Ext W w' := fun W h => over_w ga gc g W 50 60 R ws (hg.ext h) hf h60 (by omega) (by omega) hR hRl hws
    have hOl : (rOv g.length R ws).length = g.length := by simp [rOv]
    have hOr : ∀ l ∈ rOv g.length R ws, l.length = g.length := fun l hl => by
      unfold rOv at hl
      obtain ⟨a, _, rfl⟩ := List.mem_map.1 hl
      exact rOvR_len _ _ _ _
    obtain ⟨T, hTq⟩ : ∃ T : Nat → Nat → List Bool, T = fun (p h : Nat) => (rFrom (gNorm g) (p : Int) (h : Int) 50).getD [] := ⟨_, rfl⟩
    have hT : ∀ p h : Nat, rFrom (gNorm g) (p : Int) (h : Int) 50 = some (T p h) ∧ (T p h).length = g.length := fun p h => by
      obtain ⟨X, x1, x2⟩ := rFrom_ends (gNorm g) (p : Int) (h : Int) 50 (gNorm_pts g) (by rw [gNorm_len]; omega)
      rw [gNorm_len] at x2
      rw [hTq]
      show rFrom (gNorm g) (p : Int) (h : Int) 50 = some ((rFrom (gNorm g) (p : Int) (h : Int) 50).getD []) ∧ ((rFrom (gNorm g) (p : Int) (h : Int) 50).getD []).length = g.length
      rw [x1]
      exact ⟨rfl, x2⟩
    obtain ⟨B, hB⟩ : ∃ B : Nat → Nat → Bool, B = fun h p => rInC (rTls (gNorm g) (oFn (rOv g.length R ws)) h) (oFn (rOv g.length R ws)) (T p h) h p := ⟨_, rfl⟩
    obtain ⟨hbb, hhb⟩ : ∃ hbb : Nat → Bool, hbb = rHb (gNorm g) (oFn (rOv g.length R ws)) := ⟨_, rfl⟩
    have hlp := loops_same g F R ws T hF h40 hR hRl hws (fun p h => (hT p h).1) B hB hbb hhb
    have hlen : (rLps g.length ((List.range g.length).filter hbb) B).length ≤ g.length := by
      have := fil_len hbb g.length
      simpa [rLps] using this
    refine gloops_main ga g.length gc w (rLps g.length ((List.range g.length).filter hbb) B) (by omega) (fun x hx => ?_) HF ?_ (fun W h => ?_)
    · unfold rLps at hx
      obtain ⟨t, _, rfl⟩ := List.mem_map.1 hx
      show ((List.range g.length).filter _).length ≤ 1000000
      have := fil_len (B (((List.range g.length).filter hbb).getD t 0)) g.length
      omega
    · refine loops_w ga gc g w 100 2400 _ hg hf (by omega) (fun l hl => ?_) (by omega) (by omega) hlp
      have := gPred_Dl g 60 h60 l hl
      omega
    · have hnb := gNorm_bd g 60 h60
      refine rloops_w ga gc g.length W (gNorm g) (rOv g.length R ws) T (by omega) (gNorm_len g) (fun l hl => by have := hnb l hl; omega) hOl hOr (fun p h _ _ => (hT p h).2) ?_ (fun V k => HO V (h.trans k)) (fun V P p q hp hq hG => ?_) B hB hbb hhb
      · refine (norm_w ga gc g W (hg.ext h) hf).mono ?_
        rintro e w1 ⟨P, ads, rfl, s⟩
        refine ⟨P, ?_, s.graph, s.ext⟩
        rw [gNorm_len]
      · have := rfrom_w (some ⟨P, 0, none⟩) g.length (gNorm g) (p : Int) (q : Int) V 50 60 (T p q) hG (by rw [gNorm_len]; omega) hnb (by omega) (by omega) (hT p q).1
        rw [gNorm_len] at this
        refine this.mono ?_
        rintro e w1 ⟨On, rfl, _, r, x⟩
        exact ⟨On, by rw [(hT p q).2], r, x⟩

end Go.Proofs.Ytpfjafjpijmckaa
