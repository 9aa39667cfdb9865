/- The writer of parse: an expression. -/
import Derived.Test.YtgkiihjakbnhcaaGreatDoorZc43
set_option linter.unusedSimpArgs false
set_option linter.unusedVariables false
set_option maxRecDepth 10000

namespace Go.Proofs.YtgkiihjakbnhcaaGreatDoor
open Go.RowKit

theorem small_any (n : Nat) (hn : n < 10) (w : World) : Calls Tryz.prog 109 #[.int .i64 (n : Int)] w fun e w' => e = .returned (.string (dig1 n)) ∧ w' = w := by
  rcases (show n = 0 ∨ n = 1 ∨ n = 2 ∨ n = 3 ∨ n = 4 ∨ n = 5 ∨ n = 6 ∨ n = 7 ∨ n = 8 ∨ n = 9 by omega) with rfl | rfl | rfl | rfl | rfl | rfl | rfl | rfl | rfl | rfl
  all_goals
    go_enter Tryz.func109, Tryz.ntmps109
    go_wp2_with fail
    go_ret
    exact ⟨rfl, rfl⟩
theorem fmtI_any (n : Nat) (hn : n < 10) (w : World) : Calls Tryz.prog 86 #[.int .i64 (n : Int), .int .i64 10] w fun e w' => e = .returned (.string (dig1 n)) ∧ w' = w := by
  have HS := hide (small_any n hn w)
  go_enter Tryz.func86, Tryz.ntmps86
  go_wp2_with (go_at_call 109; refine Calls.mono (unhide HS) ?_; rintro e w1 ⟨rfl, hw⟩; obtain rfl := hw.symm)
  go_ret
  exact ⟨rfl, rfl⟩
theorem fmt_any (n : Nat) (hn : n < 10) (w : World) : Calls Tryz.prog 56 #[.int .i64 (n : Int), .int .i64 10] w fun e w' => e = .returned (.string (dig1 n)) ∧ w' = w := by
  have HS := hide (fmtI_any n hn w)
  go_enter Tryz.func56, Tryz.ntmps56
  go_wp2_with (go_at_call 86; refine Calls.mono (unhide HS) ?_; rintro e w1 ⟨rfl, hw⟩; obtain rfl := hw.symm)
  go_ret
  exact ⟨rfl, rfl⟩

set_option maxHeartbeats 1000000 in
theorem expr_w (g : Nat) : ∀ f, ExW g (wE f) := by
  intro f
  induction f with
  | zero => intro p least x y v W h; rw [wE] at h; cases h
  | succ f ih =>
    intro p least x y v w hy I hN
    obtain ⟨pk, po, ps, pn, pl⟩ := p
    have HTr := hide (fun (W : World) (k : WrK g w W) => hN.wrk k)
    rw [RepN] at hN
    obtain ⟨a, cap, rfl, hcap, hL⟩ := hN
    rw [wE] at hy
    have hg := I.wr.lt
    obtain ⟨⟨l, b⟩, n⟩ := x
    simp only at hy
    by_cases hbd : 0 ≤ n ∧ n ≤ 100000 ∧ ps.size ≤ 100000000
    case neg => rw [if_neg hbd] at hy; cases hy
    rw [if_pos hbd] at hy
    have hW1 : Hd (WrK g w (w.alloc (nodW pk po ps pn a pl.length cap))) := WrK.ext (Ext.alloc _ _) hg
    have HNb : Hd (∀ W, WrK g (w.alloc (nodW pk po ps pn a pl.length cap)) W → _) := fun W k => nbox hg k
    have X0 : Hd (WrI (w.alloc (nodW pk po ps pn a pl.length cap)) g ((l, b), n)) := I.ext (Ext.alloc _ _)
    have HEn := hide (wenter_any g l n b _ (unhide X0).wr hbd.1 hbd.2.1)
    have HOp := hide (fun (x y : WS3) (W : World) (v : Value) (I : WrI W g x) (hN : RepN W (fun b => b < g) ⟨pk, po, ps, pn, pl⟩ v) (hy : wO (wE f) ⟨pk, po, ps, pn, pl⟩ least x = some y) => operation_w g (wE f) ⟨pk, po, ps, pn, pl⟩ least x y v W I hN ih hy)
    have hps := hbd.2.2
    have HPS := hide hps
    clear ih hL hbd hps I
    cases hen : entN n b with
    | true =>
      rw [hen] at hy HEn
      simp only [Bool.not_true] at HEn
      rw [if_pos rfl] at hy
      injection hy with hy
      subst hy
      go_enter Tryz.func33, Tryz.ntmps33
      go_wp2_with (go_at_call 53; refine Calls.mono (unhide HEn) ?_; rintro e w2 ⟨rfl, h9, k9⟩; have W2 := hide h9; have K2 := hide ((unhide hW1).trans k9); clear h9 k9)
      go_end0
      exact ⟨rfl, unhide W2, (unhide X0).len, unhide K2⟩
    | false =>
      rw [hen] at hy HEn
      simp only [Bool.not_false] at HEn
      rw [if_neg (by decide)] at hy
      have ENT : Hd (Calls Tryz.prog 53 #[.pointer (some ⟨g, 0, none⟩)] (w.alloc (nodW pk po ps pn a pl.length cap)) fun e w2 => e = .returned (.bool true) ∧ WrI w2 g ((l, false), n + 1) ∧ WrK g (w.alloc (nodW pk po ps pn a pl.length cap)) w2) := by
        refine Calls.mono (unhide HEn) ?_
        rintro e w2 ⟨rfl, h9, k9⟩
        exact ⟨rfl, (unhide X0).go (y := ((l, false), n + 1)) k9 h9 (unhide X0).len, k9⟩
      clear HEn hen X0
      by_cases hop : pk = 11 ∨ pk = 12 ∨ pk = 13 ∨ pk = 14
      · rw [if_pos hop] at hy
        have HY := hide hy
        clear hy
        rcases hop with rfl | rfl | rfl | rfl
        all_goals
          go_enter Tryz.func33, Tryz.ntmps33
          go_wp2_with (first
            | (go_at_call 53; refine Calls.mono (unhide ENT) ?_; rintro e w2 ⟨rfl, i9, k9⟩; have X2 := hide i9; have K2 := hide k9; obtain ⟨n0, n1, n2, n3, n4⟩ := unhide HNb _ k9; clear i9 k9)
            | (have T9 := unhide X2; go_at_call 54; refine Calls.mono (unhide HOp _ _ _ _ T9 (unhide HTr _ ((unhide hW1).trans (unhide K2))) (unhide HY)) ?_; rintro e w3 ⟨rfl, h9, l9, k9⟩; have W3 := hide h9; have L3 := hide l9; have K3 := hide ((unhide K2).trans k9); clear h9 l9 k9 T9))
          go_end0
          exact ⟨rfl, unhide W3, unhide L3, (unhide hW1).trans (unhide K3)⟩
      · rw [if_neg hop] at hy
        by_cases h15 : pk = 15
        · rw [if_pos h15] at hy
          subst h15
          by_cases hpn : 0 ≤ pn ∧ pn < 10
          · rw [if_pos hpn] at hy
            injection hy with hy
            subst hy
            obtain ⟨m, rfl⟩ : ∃ m : Nat, pn = m := ⟨pn.toNat, by omega⟩
            have HFm := hide (fun W => fmt_any m (by omega) W)
            clear hop
            go_enter Tryz.func33, Tryz.ntmps33
            go_wp2_with (first
              | (go_at_call 53; refine Calls.mono (unhide ENT) ?_; rintro e w2 ⟨rfl, i9, k9⟩; have X2 := hide i9; have K2 := hide k9; obtain ⟨n0, n1, n2, n3, n4⟩ := unhide HNb _ k9; clear i9 k9)
              | (go_at_call 56; refine Calls.mono (unhide HFm _) ?_; rintro e w3 ⟨rfl, hw⟩; obtain rfl := hw.symm)
              | (have T9 := unhide X2; go_at_call 55; refine Calls.mono (words1 g _ (dig1 m) _ _ (by first | rfl | simp) T9 (by simp [dig1, ByteArray.size])) ?_; rintro e w4 ⟨rfl, h9, l9, k9⟩; have W3 := hide h9; have L3 := hide l9; have K3 := hide ((unhide K2).trans k9); clear h9 l9 k9 T9))
            go_end0
            exact ⟨rfl, unhide W3, unhide L3, (unhide hW1).trans (unhide K3)⟩
          · rw [if_neg hpn] at hy; cases hy
        · rw [if_neg h15] at hy
          by_cases h18 : pk = 18
          · rw [if_pos h18] at hy
            subst h18
            injection hy with hy
            subst hy
            clear hop h15
            go_enter Tryz.func33, Tryz.ntmps33
            go_wp2_with (first
              | (go_at_call 53; refine Calls.mono (unhide ENT) ?_; rintro e w2 ⟨rfl, i9, k9⟩; have X2 := hide i9; have K2 := hide k9; obtain ⟨n0, n1, n2, n3, n4⟩ := unhide HNb _ k9; clear i9 k9)
              | (have T9 := unhide X2; go_at_call 55; refine Calls.mono (words1 g _ ⟨#[110, 105, 108]⟩ _ _ (by first | rfl | simp) T9 (by decide)) ?_; rintro e w4 ⟨rfl, h9, l9, k9⟩; have W3 := hide h9; have L3 := hide l9; have K3 := hide ((unhide K2).trans k9); clear h9 l9 k9 T9))
            go_end0
            exact ⟨rfl, unhide W3, unhide L3, (unhide hW1).trans (unhide K3)⟩
          · rw [if_neg h18] at hy
            by_cases h19 : pk = 19
            · rw [if_pos h19] at hy
              subst h19
              injection hy with hy
              subst hy
              clear hop h15 h18
              go_enter Tryz.func33, Tryz.ntmps33
              go_wp2_with (first
                | (go_at_call 53; refine Calls.mono (unhide ENT) ?_; rintro e w2 ⟨rfl, i9, k9⟩; have X2 := hide i9; have K2 := hide k9; obtain ⟨n0, n1, n2, n3, n4⟩ := unhide HNb _ k9; clear i9 k9)
                | (have T9 := unhide X2; go_at_call 55; refine Calls.mono (words1 g _ ps _ _ (by first | rfl | simp) T9 (unhide HPS)) ?_; rintro e w4 ⟨rfl, h9, l9, k9⟩; have W3 := hide h9; have L3 := hide l9; have K3 := hide ((unhide K2).trans k9); clear h9 l9 k9 T9))
              go_end0
              exact ⟨rfl, unhide W3, unhide L3, (unhide hW1).trans (unhide K3)⟩
            · rw [if_neg h19] at hy; cases hy

end Go.Proofs.YtgkiihjakbnhcaaGreatDoor
