/- What the laws of words call: all words of a text that has them; whether a text is a name; awake. -/
import Derived.Test.YtgkiihjakbnhcaaGreatDoorZc3
set_option linter.unusedSimpArgs false
set_option linter.unusedVariables false
set_option maxRecDepth 10000

namespace Go.Proofs.YtgkiihjakbnhcaaGreatDoor
open Go.RowKit

theorem tokens_is (s : ByteArray) (ts : List Tk) (w : World) (he : Er w) (hs : s.size ≤ 4000) (hl : lexF (s.size + 1) s 0 = (ts, none)) (hne : ts ≠ []) :
    Calls Tryz.prog 16 #[.string s] w fun e w' => ∃ g cap, e = .returned (.tuple #[.slice (some ⟨g, 0, none⟩) ts.length cap, .int .i64 0, .int .i64 0]) ∧ (∀ j u, (ts.flatMap tkC)[j]? = some u → w'.cell? ⟨g, j, none⟩ = some u) ∧ Ext w w' := by
  refine (tokens_any s w he (by omega)).mono ?_
  intro e w' h
  rcases h with ⟨h, -⟩ | ⟨-, b, hb, -⟩ | ⟨-, -, v, rfl, hown, hx⟩
  · omega
  · rw [hl] at hb; cases hb
  · rw [hl] at hown
    obtain ⟨hlen, ⟨_, h0⟩ | ⟨g, cap, cur, rfl, hg, hrow, _⟩⟩ := id hown
    · exact absurd (List.length_eq_zero_iff.1 h0) hne
    · refine ⟨g, cap, rfl, fun j u hj => ?_, hx⟩
      have := hown.cells (g := g) rfl j u hj
      rw [add0] at this
      exact this

theorem tokens_bad (s : ByteArray) (ts : List Tk) (b : Nat) (w : World) (he : Er w) (hs : s.size ≤ 4000) (hl : lexF (s.size + 1) s 0 = (ts, some b)) :
    Calls Tryz.prog 16 #[.string s] w fun e w' => e = .returned (.tuple #[.slice none 0 0, .int .i64 b, .int .i64 10]) ∧ Ext w w' := by
  refine (tokens_any s w he (by omega)).mono ?_
  intro e w' h
  rcases h with ⟨h, -⟩ | ⟨-, b', hb, rfl, hx⟩ | ⟨-, hb, -⟩
  · omega
  · rw [hl] at hb
    obtain rfl := Option.some.inj hb
    exact ⟨rfl, hx⟩
  · rw [hl] at hb; cases hb

/-- Whether a text is a name and nothing else. -/
def nameB (s : ByteArray) : Bool :=
  match tokT s 0 with
  | none => false
  | some (k, _, _, m) => decide (s.size ≤ 16) && (decide (k = 1) && decide (m = s.size))

theorem toL_nil (s : ByteArray) (h : s.size ≠ 0) : (s.toList == []) = false := by
  rw [toL]
  cases hL : L s with
  | nil => have := L_len s; rw [hL] at this; simp at this; omega
  | cons c r => rfl
theorem toL_emp (s : ByteArray) (h : s.size = 0) : (s.toList == []) = true := by
  have e : L s = [] := List.eq_nil_of_length_eq_zero (by rw [L_len]; exact h)
  rw [toL, e]; rfl

theorem awake_lex : lexF 6 ⟨#[120, 61, 61, 50, 105]⟩ 0 = ([⟨1, ⟨#[120]⟩, 0, 0⟩, ⟨6, ⟨#[61, 61]⟩, 0, 1⟩, ⟨4, ⟨#[]⟩, 2, 3⟩], none) := by kernel_rfl
theorem awake_name : nameB ⟨#[120]⟩ = true := by kernel_rfl

end Go.Proofs.YtgkiihjakbnhcaaGreatDoor
