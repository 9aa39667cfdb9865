/- The walk of the law StackWays. -/
import Derived.Test.YtggpehmljpanjaaStkWyR
import Derived.Deep.DeepCutAuto
set_option linter.unusedSimpArgs false
set_option linter.unusedVariables false
set_option maxRecDepth 10000
namespace Go.Proofs.Ytggpehmljpanjaa
open Go.RowKit

set_option maxHeartbeats 1000000 in
theorem ways_walk (code : List KI) (at' : Int) (a : Option Addr) (cap : Nat) (w : World) (hc : RepC w (In w) a code) (hb : code.length ≤ 9223372036854775807) :
    Calls Try.prog 4 #[.slice a code.length cap, .int .i64 at'] w fun e w' => e = .returned (.bool true) ∧ Ext w w' := by
  have HAw := hide (fun W => awake_s W)
  by_cases h200 : 200 < code.length
  · generalize code.length = n at *
    go_enter Try.func4, Try.ntmps4
    go_wp2_with (go_at_call 9; refine Calls.mono (unhide HAw _) ?_; rintro e w8 ⟨rfl, hw⟩; have W8 := hide hw; clear hw)
    go_ret
    exact ⟨rfl, unhide W8⟩
  · have HN := hide (fun (W : World) (x : Ext w W) (k : Int) => next_any code k a cap W (hc.ext x) (by omega))
    have HM := hide (fun (W : World) (x : Ext w W) (k : Int) => rnext_any code k a cap W (hc.ext x) (by omega))
    have HS := hide (fun (W : World) (l : List Int) (x y : Option Addr) (c d : Nat) (h1 : RepZ W (In W) x l) (h2 : RepZ W (In W) y l) (hl : l.length ≤ 1000) => sameInts_k l x y c d (In W) (In W) W h1 h2 hl)
    have HL := hide (fun k => kNext_len code k)
    have HC := hide hc
    clear hc
    generalize hN : code.length = n at *
    go_enter Try.func4, Try.ntmps4
    go_wp2_with fail
    go_loopw [5] (fun t wr => ∃ (k : Nat), t = .int .i64 k ∧ k ≤ n ∧ Hd (Ext w wr)) (fun t _ => n - (intOf t).toNat)
    case atStart => exact ⟨0, rfl, by omega, Ext.refl w⟩
    case round =>
      obtain ⟨k, rfl, hk, hX⟩ := hrel
      by_cases hlt : k < n
      · obtain ⟨i, hi⟩ : ∃ i, code[k]? = some i := ⟨_, List.getElem?_eq_getElem (by omega)⟩
        obtain ⟨b, o, rfl, hf, q0, q1, q2⟩ := ((unhide HC).ext (unhide hX)).at hi
        clear hf hi
        obtain ⟨p, x, y⟩ := i
        simp only at q0 q1 q2
        have HP1 := hide (fun W => pops_any ⟨p, x, y⟩ W)
        have HP2 := hide (fun W => rpops_any ⟨p, x, y⟩ W)
        have HU1 := hide (fun W => pushes_any ⟨p, x, y⟩ W)
        have HU2 := hide (fun W => rpushes_any ⟨p, x, y⟩ W)
        have HLk : Hd ((kNext code (k : Int)).length ≤ 1000) := by have h0 := unhide HL (k : Int); show _ ≤ _; omega
        generalize kPops ⟨p, x, y⟩ = PV at HP1 HP2
        generalize kPush ⟨p, x, y⟩ = UV at HU1 HU2
        have HNW : Hd (∀ W : World, Ext wr W → Calls Try.prog 15 #[.slice (some ⟨b, o, none⟩) n cap, .int .i64 (k : Int)] W fun e w' => ∃ yb yc, e = .returned (.slice yb (kNext code (k : Int)).length yc) ∧ RepZ w' (In w') yb (kNext code (k : Int)) ∧ Ext W w') := fun W x => by
          refine Calls.mono (unhide HN W ((unhide hX).trans x) (k : Int)) ?_
          rintro e w' ⟨yb, yc, rfl, _, r, hw⟩
          exact ⟨yb, yc, rfl, r.inn, hw⟩
        have HMW : Hd (∀ W : World, Ext wr W → Calls Try.prog 16 #[.slice (some ⟨b, o, none⟩) n cap, .int .i64 (k : Int)] W fun e w' => ∃ yb yc, e = .returned (.slice yb (kNext code (k : Int)).length yc) ∧ RepZ w' (In w') yb (kNext code (k : Int)) ∧ Ext W w') := fun W x => by
          refine Calls.mono (unhide HM W ((unhide hX).trans x) (k : Int)) ?_
          rintro e w' ⟨yb, yc, rfl, _, r, hw⟩
          exact ⟨yb, yc, rfl, r.inn, hw⟩
        have HSW : Hd (∀ (W : World) (ya za : Option Addr) (yc zc : Nat), RepZ W (In W) ya (kNext code (k : Int)) → RepZ W (In W) za (kNext code (k : Int)) → Calls Try.prog 14 #[.slice ya (kNext code (k : Int)).length yc, .slice za (kNext code (k : Int)).length zc] W fun e w' => e = .returned (.bool true) ∧ Ext W w') := fun W ya za yc zc h1 h2 => unhide HS W _ ya za yc zc h1 h2 (unhide HLk)
        have Q0 := hide q0
        have Q1 := hide q1
        have Q2 := hide q2
        clear q0 q1 q2
        go_upto_region 6 with fail
        refine ways_abs (b := b) (o := o) (n := n) (cap := cap) (k := k) (p := p) (x := x) (y := y) (PV := PV) (UV := UV) (NX := kNext code (k : Int)) rfl (fun B hB => ?_) ?_
        · subst hB
          exact regionW _ wr b o n cap k p x y PV UV (kNext code (k : Int)) rfl rfl rfl hlt (by omega) (unhide Q0) (unhide Q1) (unhide Q2) HP1 HP2 HU1 HU2 HNW HMW HSW
        intro u w1 hw
        have X1 := hide ((unhide hX).trans hw)
        clear hw
        rename_i hKK
        refine hKK _ _ ?_
        clear hKK
        simp only [chainW, List.setIfInBounds_toArray, List.set_cons_zero, List.set_cons_succ]
        go_wp2_with fail
        go_roundw
        case rel => exact ⟨k + 1, by go_num, by omega, X1⟩
        case measure => simp [intOf]; omega
      · obtain rfl : k = n := by omega
        go_wp2_with (first
          | (go_at_call 15; refine Calls.mono (unhide HN _ (unhide hX) at') ?_; rintro e w1 ⟨b1, c1, rfl, _, r1, hw⟩; have R1 := hide r1.inn; have X1 := hide ((unhide hX).trans hw); clear hw r1)
          | (go_at_call 16; refine Calls.mono (unhide HM _ (unhide X1) at') ?_; rintro e w2 ⟨b2, c2, rfl, _, r2, hw⟩; have R2 := hide r2.inn; have R1' := hide ((unhide R1).ext hw); have X2 := hide ((unhide X1).trans hw); clear hw r2)
          | (go_at_call 14; refine Calls.mono (unhide HS w2 _ b1 b2 c1 c2 (unhide R1') (unhide R2) ?hl) ?_; rotate_left 1; rintro e w3 ⟨rfl, hw⟩; have X3 := hide ((unhide X2).trans hw); clear hw)
          | (have T1 := unhide X3; go_at_call 9; refine Calls.mono (unhide HAw _) ?_; rintro e w4 ⟨rfl, hw⟩; have X4 := hide ((unhide X3).trans hw); clear hw T1))
        case hl => have h0 := unhide HL at'; omega
        go_ret
        exact ⟨rfl, unhide X4⟩

end Go.Proofs.Ytggpehmljpanjaa
