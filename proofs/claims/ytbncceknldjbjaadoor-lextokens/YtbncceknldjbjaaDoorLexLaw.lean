/- What the laws of words call: all words of a text that has them; whether a text is a name; awake. -/
import Derived.Test.YtbncceknldjbjaaDoorLexToks
set_option linter.unusedSimpArgs false
set_option linter.unusedVariables false
set_option maxRecDepth 10000
namespace Go.Proofs.YtbncceknldjbjaaDoor
open Go.RowKit

theorem tokens_is (s : ByteArray) (ts : List Tk) (w : World) (he : Er w) (hs : s.size ≤ 4000) (hl : lexF (s.size + 1) s 0 = (ts, none)) (hne : ts ≠ []) :
    Calls Tryd.prog 8 #[.string s] w fun e w' => ∃ g cap, e = .returned (.tuple #[.slice (some ⟨g, 0, none⟩) ts.length cap, .int .i64 0, .int .i64 0]) ∧ (∀ j u, (ts.flatMap tkC)[j]? = some u → w'.cell? ⟨g, j, none⟩ = some u) ∧ Ext w w' := by
  refine (tokens_any s w he (by omega)).mono ?_
  intro e w' h
  rcases h with ⟨h, -⟩ | ⟨-, b, hb, -⟩ | ⟨-, -, v, rfl, hown, hx⟩
  · omega
  · rw [hl] at hb; cases hb
  · rw [hl] at hown
    obtain ⟨hlen, ⟨_, h0⟩ | ⟨g, cap, cur, rfl, hg, hrow, _⟩⟩ := id hown
    · exact absurd (List.length_eq_zero_iff.1 h0) hne
    · refine ⟨g, cap, rfl, fun j u hj => ?_, hx⟩
      have := hown.cells (g := g) rfl j u hj
      rw [add0] at this
      exact this

theorem tokens_bad (s : ByteArray) (ts : List Tk) (b : Nat) (w : World) (he : Er w) (hs : s.size ≤ 4000) (hl : lexF (s.size + 1) s 0 = (ts, some b)) :
    Calls Tryd.prog 8 #[.string s] w fun e w' => e = .returned (.tuple #[.slice none 0 0, .int .i64 b, .int .i64 10]) ∧ Ext w w' := by
  refine (tokens_any s w he (by omega)).mono ?_
  intro e w' h
  rcases h with ⟨h, -⟩ | ⟨-, b', hb, rfl, hx⟩ | ⟨-, hb, -⟩
  · omega
  · rw [hl] at hb
    obtain rfl := Option.some.inj hb
    exact ⟨rfl, hx⟩
  · rw [hl] at hb; cases hb

/-- Whether a text is a name and nothing else. -/
def nameB (s : ByteArray) : Bool :=
  match tokT s 0 with
  | none => false
  | some (k, _, _, m) => decide (s.size ≤ 16) && (decide (k = 1) && decide (m = s.size))

theorem toL_nil (s : ByteArray) (h : s.size ≠ 0) : (s.toList == []) = false := by
  rw [toL]
  cases hL : L s with
  | nil => have := L_len s; rw [hL] at this; simp at this; omega
  | cons c r => rfl
theorem toL_emp (s : ByteArray) (h : s.size = 0) : (s.toList == []) = true := by
  have e : L s = [] := List.eq_nil_of_length_eq_zero (by rw [L_len]; exact h)
  rw [toL, e]; rfl

set_option maxHeartbeats 2000000 in
theorem lname_any (s : ByteArray) (w : World) (he : Er w) (hs : s.size ≤ 140737488355328) :
    Calls Tryd.prog 11 #[.string s] w fun e w' => e = .returned (.bool (nameB s)) ∧ Ext w w' := by
  by_cases h0 : s.size = 0
  · have hb : nameB s = false := by
      unfold nameB tokT
      rw [List.getElem?_eq_none (by rw [L_len]; omega)]
    have e0 := toL_emp s h0
    rw [hb]
    clear hb h0
    go_enter Tryd.func11, Tryd.ntmps11
    go_wp2
    go_ret
    exact ⟨rfl, Ext.refl _⟩
  · have e0 := toL_nil s h0
    by_cases h16 : 16 < s.size
    · have hb : nameB s = false := by
        unfold nameB
        cases tokT s 0 with
        | none => rfl
        | some q => obtain ⟨k, t, n, m⟩ := q; simp; omega
      rw [hb]
      clear hb h0
      go_enter Tryd.func11, Tryd.ntmps11
      go_wp2
      go_ret
      exact ⟨rfl, Ext.refl _⟩
    · have h16' : ¬ ((16 : Int) < s.size) := by omega
      have HT := hide (fun W (x : Ext w W) => token_any s 0 W (by omega) hs (he.on x))
      unfold nameB
      rw [decide_eq_true (show s.size ≤ 16 by omega)]
      unfold Tells at HT
      cases hT : tokT s 0 with
      | none =>
        rw [hT] at HT
        clear hT h0 h16
        go_enter Tryd.func11, Tryd.ntmps11
        go_wp2_with (go_at_call 15; refine Calls.mono (unhide HT _ (Ext.refl _)) ?_; rintro e w1 ⟨rfl, hw⟩; have X := hide (hw.trans (Ext.alloc _ (.cells #[.int .i64 0, .string ⟨#[]⟩, .int .i64 0, .int .i64 0] 31))); clear hw)
        go_ret
        exact ⟨rfl, unhide X⟩
      | some q =>
        obtain ⟨k, t, n, m⟩ := q
        rw [hT] at HT
        clear hT h0 h16
        by_cases hk : k = 1
        · have k1 : (k == 1) = true := by simp [hk]
          by_cases hm : m = s.size
          · have m1 : ((m : Int) == (s.size : Int)) = true := by simp [hm]
            have e : (true && (decide (k = 1) && decide (m = s.size))) = true := by simp [hk, hm]
            have E := hide e
            clear hk hm e
            go_enter Tryd.func11, Tryd.ntmps11
            go_wp2_with (go_at_call 15; refine Calls.mono (unhide HT _ (Ext.refl _)) ?_; rintro e w1 ⟨rfl, hw⟩; have X := hide hw; clear hw)
            go_ret
            exact ⟨ret_bool (unhide E).symm, (unhide X).trans (Ext.alloc _ _)⟩
          · have m1 : ((m : Int) == (s.size : Int)) = false := by simp; omega
            have e : (true && (decide (k = 1) && decide (m = s.size))) = false := by simp [hk, hm]
            have E := hide e
            clear hk hm e
            go_enter Tryd.func11, Tryd.ntmps11
            go_wp2_with (go_at_call 15; refine Calls.mono (unhide HT _ (Ext.refl _)) ?_; rintro e w1 ⟨rfl, hw⟩; have X := hide hw; clear hw)
            go_ret
            exact ⟨ret_bool (unhide E).symm, (unhide X).trans (Ext.alloc _ _)⟩
        · have k1 : (k == 1) = false := by simp [hk]
          have e : (true && (decide (k = 1) && decide (m = s.size))) = false := by simp [hk]
          have E := hide e
          clear hk e
          go_enter Tryd.func11, Tryd.ntmps11
          go_wp2_with (go_at_call 15; refine Calls.mono (unhide HT _ (Ext.refl _)) ?_; rintro e w1 ⟨rfl, hw⟩; have X := hide hw; clear hw)
          go_ret
          exact ⟨ret_bool (unhide E).symm, (unhide X).trans (Ext.alloc _ _)⟩

theorem awake_lex : lexF 6 ⟨#[120, 61, 61, 50, 105]⟩ 0 = ([⟨1, ⟨#[120]⟩, 0, 0⟩, ⟨6, ⟨#[61, 61]⟩, 0, 1⟩, ⟨4, ⟨#[]⟩, 2, 3⟩], none) := by kernel_rfl
theorem awake_name : nameB ⟨#[120]⟩ = true := by kernel_rfl

set_option maxHeartbeats 2000000 in
theorem awake_any (w : World) (he : Er w) :
    Calls Tryd.prog 10 #[] w fun e w' => e = .returned (.bool true) ∧ Ext w w' := by
  have HT := hide (tokens_is ⟨#[120, 61, 61, 50, 105]⟩ _ w he (by decide) awake_lex (by simp))
  have HN := hide (fun W (x : Ext w W) => awake_name ▸ lname_any ⟨#[120]⟩ W (he.on x) (by decide))
  go_enter Tryd.func10, Tryd.ntmps10
  go_wp2_with (first
    | (go_at_call 8; refine Calls.mono (unhide HT) ?_; rintro e w1 ⟨g, cap, rfl, hc, hw⟩; have c0 := hc 0 _ rfl; have c5 := hc 5 _ rfl; have c8 := hc 8 _ rfl; have c10 := hc 10 _ rfl; have X := hide hw; clear hc hw)
    | (go_at_call 11; refine Calls.mono (unhide HN _ (unhide X)) ?_; rintro e w2 ⟨rfl, hw⟩; have Y := hide ((unhide X).trans hw); clear hw))
  go_ret
  exact ⟨rfl, unhide Y⟩

end Go.Proofs.YtbncceknldjbjaaDoor
