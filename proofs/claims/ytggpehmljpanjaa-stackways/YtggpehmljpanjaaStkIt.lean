/- Whether a code is ticked. -/
import Derived.Test.YtggpehmljpanjaaStkCy
set_option linter.unusedSimpArgs false
set_option linter.unusedVariables false
set_option maxRecDepth 10000
namespace Go.Proofs.Ytggpehmljpanjaa
open Go.RowKit

/-- The calls of what is come to have their ticks, from a place on. -/
def kTkL (code : List KI) (hs : List Int) : Nat → Nat → Option Bool
  | 0, _ => some true
  | m + 1, j => match hs[j]? with
    | none => none
    | some x => if x = -1 then kTkL code hs m (j + 1) else match kCallT code j with
      | none => none
      | some c => if c then kTkL code hs m (j + 1) else some false
def kTicked (code : List KI) (hs : List Int) (K : Nat) : Option Bool :=
  match kTkL code hs code.length 0 with
  | none => none
  | some c => if c then (match kCyc code hs K with
      | none => none
      | some b => some (!b)) else some false

theorem kTkL_step (code : List KI) (hs : List Int) {n k : Nat} (hk : k < n) : kTkL code hs (n - k) k = match hs[k]? with
    | none => none
    | some x => if x = -1 then kTkL code hs (n - (k + 1)) (k + 1) else match kCallT code k with
      | none => none
      | some c => if c then kTkL code hs (n - (k + 1)) (k + 1) else some false := by
  rw [show n - k = (n - (k + 1)) + 1 by omega, kTkL]

set_option maxHeartbeats 1000000 in
theorem ticked_w (code : List KI) (hs : List Int) (a ha : Option Addr) (cap hcap K : Nat) (r : Bool) (w : World) (hc : RepC w (In w) a code) (hh : RepZ w (In w) ha hs) (hl : hs.length = code.length) (hn : code.length ≤ 1000000) (hK : K ≤ 1000000) (hr : kTicked code hs K = some r) :
    Calls Try.prog 24 #[.slice a code.length cap, .slice ha code.length hcap] w fun e w' => e = .returned (.bool r) ∧ Ext w w' := by
  have HCT := hide (fun (W : World) (e : Ext w W) (j : Nat) (r : Bool) => callT_any code j r a cap W (hc.ext e) hn)
  have HCY := hide (fun (W : World) (e : Ext w W) (r : Bool) => cyc_w code hs a ha cap hcap K r W (hc.ext e) (hh.ext e) hl hn hK)
  unfold kTicked at hr
  cases hT : kTkL code hs code.length 0 with
  | none => rw [hT] at hr; cases hr
  | some c =>
  rw [hT] at hr
  simp only at hr
  have HT := hide hT
  have HR := hide hr
  have HH := hide hh
  clear hT hr hc hh
  generalize hN : code.length = n at *
  have HN := hide hN
  clear hN
  go_enter Try.func24, Try.ntmps24
  go_wp2_with fail
  go_loopw [9] (fun t wr => ∃ (k : Nat), t = .int .i64 k ∧ k ≤ n ∧ Hd (kTkL code hs (n - k) k = some c) ∧ Hd (Ext w wr)) (fun t _ => n - (intOf t).toNat)
  case atStart => exact ⟨0, rfl, by omega, HT, Ext.refl w⟩
  case round =>
    clear HT
    obtain ⟨k, rfl, hk, hE, hX⟩ := hrel
    by_cases hlt : k < n
    · have hE2 := unhide hE
      rw [kTkL_step code hs hlt] at hE2
      cases hx : hs[k]? with
      | none => rw [hx] at hE2; cases hE2
      | some x =>
      rw [hx] at hE2
      simp only at hE2
      obtain ⟨hb, rfl, hcell⟩ : ∃ hb, ha = some ⟨hb, 0, none⟩ ∧ wr.cell? ⟨hb, k, none⟩ = some (.int .i64 x) := by
        rcases (unhide HH).ext (unhide hX) with h | ⟨hb, e, _, hc⟩
        · rw [h] at hx; simp at hx
        · exact ⟨hb, e, hc k x hx⟩
      clear hx
      by_cases hx1 : x = -1
      · rw [if_pos hx1] at hE2
        have HE2 := hide hE2
        have hxf : (x != -1) = false := by simp [hx1]
        clear hE2 hx1
        go_wp2_with fail
        go_roundw
        case rel => exact ⟨k + 1, by go_num, by omega, HE2, hX⟩
        case measure => simp [intOf]; omega
      · rw [if_neg hx1] at hE2
        have hxf : (x != -1) = true := by simp [hx1]
        clear hx1
        cases hq : kCallT code k with
        | none => rw [hq] at hE2; cases hE2
        | some b =>
        rw [hq] at hE2
        simp only at hE2
        have HQ := hide hq
        clear hq
        cases b with
        | true =>
          have HE2 : Hd (kTkL code hs (n - (k + 1)) (k + 1) = some c) := hE2
          clear hE2
          go_wp2_with (go_at_call 32; refine Calls.mono (unhide HCT _ (unhide hX) k true (unhide HQ)) ?_; rintro e w4 ⟨rfl, hw⟩; have X4 := hide ((unhide hX).trans hw); clear hw)
          go_roundw
          case rel => exact ⟨k + 1, by go_num, by omega, HE2, X4⟩
          case measure => simp [intOf]; omega
        | false =>
          have hcf : Hd (r = false) := by
            have e : c = false := by injection hE2 with e; exact e.symm
            have := unhide HR
            rw [e] at this
            injection this with this
            exact this.symm
          clear hE2
          go_wp2_with (go_at_call 32; refine Calls.mono (unhide HCT _ (unhide hX) k false (unhide HQ)) ?_; rintro e w4 ⟨rfl, hw⟩; have X4 := hide ((unhide hX).trans hw); clear hw)
          rw [unhide hcf]
          go_ret
          exact ⟨rfl, unhide X4⟩
    · obtain rfl : k = n := by omega
      have hq := unhide hE
      rw [Nat.sub_self, kTkL] at hq
      injection hq with hq
      subst hq
      have hr := unhide HR
      simp only [if_true] at hr
      cases hcy : kCyc code hs K with
      | none => rw [hcy] at hr; cases hr
      | some b =>
      rw [hcy] at hr
      injection hr with hr
      have HB := hide hcy
      have HF := hide hr
      clear hcy hr hE hlt
      go_wp2_with (go_at_call 33; refine Calls.mono (unhide HCY _ (unhide hX) b (unhide HB)) ?_; rintro e w4 ⟨rfl, hw⟩; have X4 := hide ((unhide hX).trans hw); clear hw)
      rw [← unhide HF]
      go_ret
      exact ⟨rfl, unhide X4⟩

end Go.Proofs.Ytggpehmljpanjaa
