/- Whether one can go round. -/
import Derived.Test.YtpfjafjpijmckaaGrCy
import Derived.BigRegion
set_option linter.unusedSimpArgs false
set_option linter.unusedVariables false
set_option maxRecDepth 10000
namespace Go.Proofs.Ytpfjafjpijmckaa
open Go.RowKit

structure CyI (w wr : World) (B S N Y : Nat) (ga : Option Addr) (gc : Nat) (g : List (List Int)) (K p : Nat) (st F : GW) (ma : Option Addr) (mc : Nat) (la : Option Addr) (lc : Nat) : Prop where
  S : WlS w wr B S N Y ga gc g.length st ma mc la lc
  eq : gCycF g K (g.length - p) p st = some F
  nx : ∀ (p x : Nat) (l : List Int), st.next[p]? = some x → g[p]? = some l → x ≤ l.length
  ml : st.met.length ≤ p * (K + 1)
  ll : st.left.length ≤ p * (K + 1)
  mp : ∀ x ∈ st.met, x < g.length
  lp : ∀ x ∈ st.left, x < g.length

set_option maxHeartbeats 8000000 in
theorem cyclic_w (ga : Option Addr) (gc : Nat) (g : List (List Int)) (pa : Option Addr) (pc : Nat) (pass : List Bool) (w : World) (K : Nat) (b : Bool) (hg : RepG w (In w) ga g) (hf : Few g) (hp : RepB w (In w) pa pass) (hpl : pass.length ≤ 9223372036854775807) (hK : (g.length + 1) * (K + 1) ≤ 900000) (hF : gCyc g pass K = some b) :
    Calls Try.prog 13 #[.slice ga g.length gc, .slice pa pass.length pc] w fun e w' => e = .returned (.bool b) ∧ Ext w w' := by
  unfold gCyc at hF
  cases hw : gWalk g K with
  | none => rw [hw] at hF; cases hF
  | some r =>
  rw [hw] at hF
  simp only at hF
  cases hc : gCycF g K g.length 0 ⟨(List.range g.length).map (fun i => gShut pass i (r.shut.getD i false)), List.replicate g.length 0, List.replicate g.length none, [], []⟩ with
  | none => rw [hc] at hF; cases hF
  | some stF =>
  rw [hc] at hF
  simp only [Option.some.injEq] at hF
  subst hF
  have hgn : g.length ≤ 1000000 := hf.1
  have hK1 : K + 1 ≤ 900000 := Nat.le_trans (by rw [Nat.succ_mul]; omega) hK
  have H1 := hide (newWalk_w ga g.length gc w hgn)
  have H2 := hide (fun (W : World) (x : Ext w W) => reach_w ga gc g W K r (hg.ext x) hf (by omega) hw)
  have H3 := hide (fun (W : World) (B S N Y : Nat) (st : GW) (ma : Option Addr) (mc : Nat) (la : Option Addr) (lc : Nat) (p : Nat) (F : GW) (hS : WlS w W B S N Y ga gc g.length st ma mc la lc) (h1 : p < g.length) (h2 : WOk g 7000000 K ⟨st.shut, st.next, st.wby, st.met ++ [p], st.left⟩) (h3 : gFrom g K st p = some F) => from_w w W B S N Y ga gc g st ma mc la lc p 7000000 K F hg hf hS h1 h2 (by omega) h3)
  have H4 := hide (fun (W : World) (B S N Y : Nat) (st : GW) (ma : Option Addr) (mc : Nat) (la : Option Addr) (lc : Nat) (hS : WlS w W B S N Y ga gc g.length st ma mc la lc) (h1 : st.left.length ≤ 1000000) (h2 : ∀ p ∈ st.left, p < g.length) => wentRound_w w W B S N Y ga gc g st ma mc la lc hg hf hS h1 h2)
  have HP := hide hp
  have HC := hide hc
  clear hg hf hw hc hp
  go_enter Try.func13, Try.ntmps13
  go_wp2_with (first
    | (go_at_call 33; refine Calls.mono (unhide H1) ?_; rintro e w1 ⟨B, S, N, Y, rfl, s1⟩; have S1 := hide s1; clear s1)
    | (go_at_call 20; refine Calls.mono (unhide H2 w1 (unhide S1).ext) ?_; rintro e w2 ⟨R, rfl, b2, r2, l2, x2⟩; have B2 := hide b2; have R2 := hide r2; have L2 := hide l2; have S2 := hide ((unhide S1).on x2); have hRS : Hd (R ≠ S) := (by have := k_lt (unhide S1).rS; unfold Hd; omega); clear b2 r2 l2 x2))
  obtain ⟨f, hf⟩ : ∃ f : Nat → Bool, f = fun i => gShut pass i (r.shut.getD i false) := ⟨_, rfl⟩
  go_loopw [14] (fun t wr => ∃ (j : Nat), t = .int .i64 (j : Int) ∧ j ≤ g.length ∧ Hd (WlS w wr B S N Y ga gc g.length ⟨(List.range j).map f ++ List.replicate (g.length - j) false, List.replicate g.length 0, List.replicate g.length none, [], []⟩ none 0 none 0) ∧ Hd (Row wr R 4 (bsV r.shut))) (fun t _ => g.length - (intOf t).toNat)
  case atStart => exact ⟨0, rfl, by omega, by simpa [Hd, gNew] using unhide S2, R2⟩
  case round =>
    clear S1 S2 B2 R2
    obtain ⟨j, rfl, hj, hS, hR⟩ := hrel
    by_cases hlt : j < g.length
    · obtain ⟨is, his⟩ : ∃ is, r.shut[j]? = some is := ⟨_, List.getElem?_eq_getElem (by rw [unhide L2]; exact hlt)⟩
      have ci := (unhide hR).cell j (bs_at his)
      have c1 : wr.cell? ⟨B, 1, none⟩ = some (slV S g.length) := (unhide hS).rB.cell 1 rfl
      obtain ⟨y, hy⟩ : ∃ y, ((List.range j).map f ++ List.replicate (g.length - j) false)[j]? = some y := ⟨_, List.getElem?_eq_getElem (by simp; omega)⟩
      have cy := (unhide hS).rS.cell j (bs_at hy)
      have fy := k_rowF (unhide hS).rS j
      have hlt2 : (j : Int) < (g.length : Int) := by omega
      have hfj : f j = gShut pass j is := by rw [hf]; simp [List.getD, his]
      have HS' := hide (((unhide hS).setS j (f j)).on (Ext.drew (Ext.refl _)))
      simp only [sh_step _ _ _ hlt] at HS'
      have HR' : Hd (Row ((wr.setCell ⟨S, j, none⟩ (.bool (f j))).drew) R 4 (bsV r.shut)) := ((unhide hR).other (unhide hRS) _ _).on (Ext.drew (Ext.refl _))
      rw [hfj] at HS' HR'
      unfold gShut at HS' HR'
      clear hy his hfj
      cases is with
      | false =>
        simp only [Bool.not_false, Bool.true_or] at HS' HR'
        go_wp2_with fail
        go_region
        go_wp2_with fail
        go_roundw
        case rel => exact ⟨j + 1, by go_num, by omega, HS', HR'⟩
        case measure => simp [intOf]; omega
      | true =>
        simp only [Bool.not_true, Bool.false_or] at HS' HR'
        by_cases hpj : j < pass.length
        · obtain ⟨q, hq⟩ : ∃ q, pass[j]? = some q := ⟨_, List.getElem?_eq_getElem hpj⟩
          have cq : ∃ pb po, pa = some ⟨pb, po, none⟩ ∧ wr.cell? ⟨pb, po + j, none⟩ = some (.bool q) := by
            rcases unhide HP with h | ⟨pb, po, h, _, hc⟩
            · rw [h] at hq; simp at hq
            · exact ⟨pb, po, h, (unhide hS).ext.cell (hc j q hq)⟩
          obtain ⟨pb, po, rfl, cq⟩ := cq
          have e1 : pass.getD j false = q := by simp [List.getD, hq]
          rw [e1] at HS' HR'
          have hpj2 : (j : Int) < (pass.length : Int) := by omega
          clear hq e1
          go_wp2_with fail
          go_region
          go_wp2_with fail
          go_roundw
          case rel => exact ⟨j + 1, by go_num, by omega, HS', HR'⟩
          case measure => simp [intOf]; omega
        · have e1 : pass.getD j false = false := by simp [List.getD, List.getElem?_eq_none (by omega : pass.length ≤ j)]
          rw [e1] at HS' HR'
          have hpj2 : decide ((j : Int) < (pass.length : Int)) = false := by rw [decide_eq_false_iff_not]; omega
          clear e1
          go_wp2_with fail
          go_region
          go_wp2_with fail
          go_roundw
          case rel => exact ⟨j + 1, by go_num, by omega, HS', HR'⟩
          case measure => simp [intOf]; omega
    · obtain rfl : j = g.length := by omega
      have HI0 : Hd (CyI w wr B S N Y ga gc g K 0 ⟨(List.range g.length).map f, List.replicate g.length 0, List.replicate g.length none, [], []⟩ stF none 0 none 0) := by
        refine ⟨by have := unhide hS; simpa using this, by rw [hf]; exact unhide HC, fun p x l hx _ => ?_, by simp, by simp, fun x hx => (by cases hx), fun x hx => (by cases hx)⟩
        have : x = 0 := List.eq_of_mem_replicate (List.mem_of_getElem? hx)
        omega
      clear hS hR HC
      go_wp2_with fail
      go_loopw [42] (fun t wr => ∃ (p : Nat) (st : GW) (ma : Option Addr) (mc : Nat) (la : Option Addr) (lc : Nat), t = .int .i64 (p : Int) ∧ p ≤ g.length ∧ Hd (CyI w wr B S N Y ga gc g K p st stF ma mc la lc)) (fun t _ => g.length - (intOf t).toNat)
      case atStart => exact ⟨0, _, none, 0, none, 0, rfl, by omega, HI0⟩
      case round =>
        clear HI0
        obtain ⟨p, st, ma, mc, la, lc, rfl, hp, hI⟩ := hrel
        have c1 : wr.cell? ⟨B, 1, none⟩ = some (slV S g.length) := (unhide hI).S.rB.cell 1 rfl
        have hsm : (p + 1) * (K + 1) = p * (K + 1) + (K + 1) := Nat.succ_mul p (K + 1)
        have hgm : (g.length + 1) * (K + 1) = g.length * (K + 1) + (K + 1) := Nat.succ_mul g.length (K + 1)
        have hml := (unhide hI).ml
        have hll := (unhide hI).ll
        by_cases hlt : p < g.length
        · have hpm : p * (K + 1) ≤ g.length * (K + 1) := Nat.mul_le_mul_right _ (by omega)
          have heq := (unhide hI).eq
          rw [show g.length - p = g.length - (p + 1) + 1 by omega, gCycF] at heq
          cases hb : st.shut[p]? with
          | none => rw [hb] at heq; cases heq
          | some b =>
          rw [hb] at heq
          have cb := (unhide hI).S.rS.cell p (bs_at hb)
          have hlt2 : (p : Int) < (g.length : Int) := by omega
          clear hb
          cases b with
          | true =>
            simp only at heq
            have HI' : Hd (CyI w wr B S N Y ga gc g K (p + 1) st stF ma mc la lc) := ⟨(unhide hI).S, heq, (unhide hI).nx, by omega, by omega, (unhide hI).mp, (unhide hI).lp⟩
            clear heq
            go_wp2_with fail
            go_roundw
            case rel => exact ⟨p + 1, st, ma, mc, la, lc, by go_num, by omega, HI'⟩
            case measure => simp [intOf]; omega
          | false =>
            simp only at heq
            cases hfr : gFrom g K st p with
            | none => rw [hfr] at heq; cases heq
            | some st2 =>
            rw [hfr] at heq
            simp only at heq
            have hl2 := gFrom_len hfr
            have hm2 := gFrom_met hlt (unhide hI).mp (unhide hI).lp hfr
            have hn2 := gLook_nx g K ⟨st.shut.set p true, st.next, st.wby, st.met ++ [p], st.left⟩ p st2 (unhide hI).nx hfr
            have HCall := hide (unhide H3 wr B S N Y st ma mc la lc p st2 (unhide hI).S hlt ⟨(unhide hI).nx, by simp only [List.length_append, List.length_cons, List.length_nil]; omega, by show st.left.length + K ≤ _; omega⟩ hfr)
            have HI' := hide (fun (W : World) (ma : Option Addr) (mc : Nat) (la : Option Addr) (lc : Nat) (hS : WlS w W B S N Y ga gc g.length st2 ma mc la lc) => (show CyI w W B S N Y ga gc g K (p + 1) st2 stF ma mc la lc from ⟨hS, heq, hn2, by omega, by omega, hm2.1, hm2.2⟩))
            clear heq hfr hl2 hm2 hn2
            go_wp2_with (go_at_call 34; refine Calls.mono (unhide HCall) ?_; rintro e w3 ⟨rfl, ma3, mc3, la3, lc3, s3⟩; have S3 := hide s3; clear s3)
            go_roundw
            case rel => exact ⟨p + 1, st2, ma3, mc3, la3, lc3, by go_num, by omega, unhide HI' _ _ _ _ _ (unhide S3)⟩
            case measure => simp [intOf]; omega
        · obtain rfl : p = g.length := by omega
          have HQ : Hd (st = stF) := by
            have := (unhide hI).eq
            rw [Nat.sub_self, gCycF] at this
            injection this
          have hq := unhide HQ
          subst hq
          have HCall := hide (unhide H4 wr B S N Y st ma mc la lc (unhide hI).S (by omega) (unhide hI).lp)
          have HX := hide (unhide hI).S.ext
          go_wp2_with (go_at_call 35; refine Calls.mono (unhide HCall) ?_; rintro e w3 ⟨rfl, x3⟩; have X3 := hide x3; clear x3)
          go_ret
          exact ⟨rfl, (unhide HX).trans (unhide X3)⟩

end Go.Proofs.Ytpfjafjpijmckaa
