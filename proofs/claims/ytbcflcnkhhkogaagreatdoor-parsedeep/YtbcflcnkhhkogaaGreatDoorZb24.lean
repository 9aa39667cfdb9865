/- Statements, blocks and what stands behind an if, tied together. -/
import Derived.Test.YtbcflcnkhhkogaaGreatDoorZb22
import Derived.Test.YtbcflcnkhhkogaaGreatDoorZb23
set_option linter.unusedSimpArgs false
set_option linter.unusedVariables false
set_option maxRecDepth 10000

namespace Go.Proofs.YtbcflcnkhhkogaaGreatDoor
open Go.RowKit

theorem sts_one (len fe f : Nat) : (stsP len fe (f + 1)).1 = stmP len (exP len fe) (stsP len fe f).2.1 (stsP len fe f).2.2 := by rw [stsP]
theorem sts_two (len fe f : Nat) : (stsP len fe (f + 1)).2.1 = blkP len (stsP len fe f).1 (f + 1) := by rw [stsP]
theorem sts_three (len fe f : Nat) : (stsP len fe (f + 1)).2.2 = choP (exP len fe) (blkP len (stsP len fe f).1 (f + 1)) (othP (stsP len fe f).2.2 (stsP len fe f).2.1) := by rw [stsP]

theorem sts_lt (len fe f : Nat) (hf : 0 < f) (s : PS) (hne : s.ts ≠ []) : ((stsP len fe f).1 s).2.ts.length < s.ts.length := by
  obtain ⟨f, rfl⟩ : ∃ i, f = i + 1 := ⟨f - 1, by omega⟩
  obtain ⟨h1, h2, h3⟩ := sts_le len fe f
  rw [sts_one]
  exact stm_lt (ex_le len fe) h2 h3 hne

theorem sts_all (g len fe B : Nat) (hB : B = 100000) (hfe : fe ≤ B) (f : Nat) : f ≤ fe → RdIs g len 124 (stsP len fe f).1 f ∧ RdIs g len 91 (stsP len fe f).2.1 f ∧ RdIs g len 147 (stsP len fe f).2.2 f := by
  have hx : RdIs g len 22 (exP len fe) fe := exIs g len fe (by omega)
  induction f with
  | zero => exact fun _ => ⟨fun st W hl _ => absurd hl (Nat.not_lt_zero _), fun st W hl _ => absurd hl (Nat.not_lt_zero _), fun st W hl _ => absurd hl (Nat.not_lt_zero _)⟩
  | succ f ih =>
    intro hf
    obtain ⟨h1, h2, h3⟩ := ih (by omega)
    obtain ⟨s1, s2, s3⟩ := sts_le len fe f
    have hb : RdIs g len 91 (blkP len (stsP len fe f).1 (f + 1)) (f + 1) := fun st W hl hR =>
      blk_any len g (stsP len fe f).1 (f + 1) st W hR hl (by omega) (fun hne s hs => sts_lt len fe f (by have := List.length_pos_iff.2 hne; omega) s hs) (fun s hs => h1.ex s W (by omega))
    have hb2 := blk_le (len := len) s1 (f + 1)
    have hs : RdIs g len 124 (stmP len (exP len fe) (stsP len fe f).2.1 (stsP len fe f).2.2) (f + 1) := fun st W hl hR =>
      stm_any len g (exP len fe) (stsP len fe f).2.1 (stsP len fe f).2.2 st W hR (ex_le len fe) (fun s hs => hx.ex s W (by omega)) (fun s hs => h2.ex s W (by omega)) (fun s hs => h3.ex s W (by omega))
    have hc : RdIs g len 147 (choP (exP len fe) (blkP len (stsP len fe f).1 (f + 1)) (othP (stsP len fe f).2.2 (stsP len fe f).2.1)) (f + 1) := fun st W hl hR => by
      have e1 := ex_le len fe st
      have e2 := hb2 (exP len fe st).2
      refine cho_any len g (exP len fe) (blkP len (stsP len fe f).1 (f + 1)) (othP (stsP len fe f).2.2 (stsP len fe f).2.1) st W hR (hx.ex st W (by omega)) (hb.ex _ W (by omega)) (fun hw W2 _ hR2 => ?_)
      have e3 := next_lt_of (isW_ne hw)
      generalize (blkP len (stsP len fe f).1 (f + 1) (exP len fe st).2).2 = s2 at *
      have e4 := next_le s2.next
      exact oth_any len g (stsP len fe f).2.2 (stsP len fe f).2.1 s2.next W2 hR2 (fun _ => h3.ex _ W2 (by omega)) (fun _ => h2.ex _ W2 (by omega))
    rw [sts_one, sts_two, sts_three]
    exact ⟨hs, hb, hc⟩

/-- A block is read as stsP says. -/
theorem blkIs (g len f : Nat) (hf : f ≤ 100000) : RdIs g len 91 (stsP len f f).2.1 f := (sts_all g len f 100000 rfl hf f (Nat.le_refl _)).2.1
theorem blkIs_le (len f : Nat) : Shorter (stsP len f f).2.1 := (sts_le len f f).2.1

end Go.Proofs.YtbcflcnkhhkogaaGreatDoor
