/- What leads to each point; the points of which one is the immediate dominator. -/
import Derived.Test.YtjopfpchbakggaaGrPr
set_option linter.unusedSimpArgs false
set_option linter.unusedVariables false
set_option maxRecDepth 10000
namespace Go.Proofs.Ytjopfpchbakggaa
open Go.RowKit

/-- What a call that makes lists answers. -/
def PredE (w : World) (ls : List (List Nat)) (e : Ending) (w' : World) : Prop := ∃ P ads, e = .returned (.slice (some ⟨P, 0, none⟩) ls.length ls.length) ∧ RwS w w' P ls ads

theorem gPredL_len (n p : Nat) : ∀ (l : List Int) (ps : List (List Nat)), (gPredL n p l ps).length = ps.length
  | [], ps => rfl
  | x :: r, ps => by rw [gPredL, gPredL_len n p r]; split <;> simp
theorem gPredF_len (n : Nat) : ∀ (g : List (List Int)) (p : Nat) (ps : List (List Nat)), (gPredF n g p ps).length = ps.length
  | [], p, ps => rfl
  | l :: r, p, ps => by rw [gPredF, gPredF_len n r, gPredL_len]
theorem gPreds_len (g : List (List Int)) : (gPreds g).length = g.length := by unfold gPreds; rw [gPredF_len]; simp

/-- The lists so far, in a list's middle. -/
structure PrI (w wr : World) (P : Nat) (ads : List (Option Addr × Nat)) (n p : Nat) (l : List Int) (j : Nat) (ps F : List (List Nat)) : Prop where
  S : RwS w wr P ps ads
  len : ps.length = n
  bd : ∀ l ∈ ps, l.length ≤ p * 1000000 + j
  eq : gPredL n p (l.drop j) ps = F

theorem gKid_len : ∀ (d : List (Option Nat)) (i : Nat) (ks F : List (List Nat)), gKid d i ks = some F → F.length = ks.length
  | [], i, ks, F, h => by rw [gKid] at h; injection h with h; rw [h]
  | none :: r, i, ks, F, h => by rw [gKid] at h; exact gKid_len r _ _ _ h
  | some a :: r, i, ks, F, h => by
    rw [gKid] at h
    split at h
    · cases h
    · have := gKid_len r _ _ _ h
      rw [List.length_set] at this
      exact this

end Go.Proofs.Ytjopfpchbakggaa
