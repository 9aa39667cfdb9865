/- A reader of statements that has erred stays as it is; one that goes on leaves open what was open. -/
import Derived.Test.YtgkiihjakbnhcaaGreatDoorZc7
set_option linter.unusedSimpArgs false
set_option linter.unusedVariables false
set_option maxRecDepth 10000

namespace Go.Proofs.YtgkiihjakbnhcaaGreatDoor
open Go.RowKit

theorem ofEx_kp {len : Nat} {ex : Rdr} (h : GoodR ex) (k : Int) : GoodR (ofExP len ex k) := fun st n => (h st n).trans (psign_kp ((h st n).nv n) len _)
theorem plain_kp (len : Nat) (k : Int) : GoodR (plainP len k) := fun st n => psign_kp n len _
theorem answer_kp {len : Nat} {ex : Rdr} (h : GoodR ex) : GoodR (answerP len ex) := by
  intro st n
  unfold answerP
  split
  · exact plain_kp len 7 st n
  · exact ofEx_kp h 7 st n
theorem named_kp {len : Nat} {ex : Rdr} (h : GoodR ex) (k : Int) : GoodR (namedP len ex k) := by
  intro st n
  have h1 := name_kp n len
  have n1 := h1.nv n
  have h2 := psign_kp n1 len ⟨#[61]⟩
  exact h1.trans (h2.trans (ofEx_kp h k _ (h2.nv n1)))
theorem blkLoop_kp {sm : Rdr} (h : GoodR sm) : ∀ (f : Nat) (acc : List PN) (st : PS), Nv st → Kp st (blkLoop sm f acc st).2
  | 0, acc, st, n => Kp.refl n
  | f + 1, acc, st, n => by
    rw [blkLoop]
    split
    · exact Kp.refl n
    · exact (h st n).trans (blkLoop_kp h f _ _ ((h st n).nv n))
theorem blk_kp {len : Nat} {sm : Rdr} (h : GoodR sm) (f : Nat) : GoodR (blkP len sm f) := by
  intro st n
  unfold blkP
  split
  · refine br_kp (len := len) n ?_
    have n1 := enter_nv n len
    have h1 := next_kp n1
    have n2 := h1.nv n1
    have h2 := blkLoop_kp h f [] _ n2
    exact h1.trans (h2.trans (psign_kp (h2.nv n2) len _))
  · exact fail_kp _ _ (by decide)
theorem cho_kp {ex bl ot : Rdr} (h : GoodR ex) (hb : GoodR bl) (ho : GoodR ot) : GoodR (choP ex bl ot) := by
  intro st n
  have h1 := h st n
  have n1 := h1.nv n
  have h2 := hb _ n1
  have n2 := h2.nv n1
  unfold choP
  split
  · have h3 := next_kp n2
    exact h1.trans (h2.trans (h3.trans (ho _ (h3.nv n2))))
  · exact h1.trans h2
theorem oth_kp {ch bl : Rdr} (h : GoodR ch) (hb : GoodR bl) : GoodR (othP ch bl) := by
  intro st n
  unfold othP
  split
  · exact (next_kp n).trans (h _ ((next_kp n).nv n))
  · exact hb st n
theorem whi_kp {ex bl : Rdr} (h : GoodR ex) (hb : GoodR bl) : GoodR (whiP ex bl) := fun st n => (h st n).trans (hb _ ((h st n).nv n))
theorem stm_kp {len : Nat} {ex bl ch : Rdr} (h : GoodR ex) (hb : GoodR bl) (hc : GoodR ch) : GoodR (stmP len ex bl ch) := by
  intro st n
  have k := next_kp n
  have m := k.nv n
  unfold stmP
  split
  · exact k.trans (named_kp h 1 _ m)
  split
  · exact named_kp h 2 _ n
  split
  · exact k.trans (hc _ m)
  split
  · exact k.trans (whi_kp h hb _ m)
  split
  · exact k.trans (plain_kp len 5 _ m)
  split
  · exact k.trans (plain_kp len 6 _ m)
  split
  · exact k.trans (answer_kp h _ m)
  split
  · exact k.trans (ofEx_kp h 8 _ m)
  · exact ofEx_kp h 9 _ n
theorem sts_kp (len fe : Nat) : ∀ f, GoodR (stsP len fe f).1 ∧ GoodR (stsP len fe f).2.1 ∧ GoodR (stsP len fe f).2.2
  | 0 => ⟨fun _ n => Kp.refl n, fun _ n => Kp.refl n, fun _ n => Kp.refl n⟩
  | f + 1 => by
    obtain ⟨h1, h2, h3⟩ := sts_kp len fe f
    rw [stsP]
    exact ⟨stm_kp (ex_kp len fe) h2 h3, blk_kp h1 _, cho_kp (ex_kp len fe) (blk_kp h1 _) (oth_kp h3 h2)⟩
theorem parLoop_kp (len : Nat) : ∀ (f : Nat) (acc : List ByteArray) (st : PS), Nv st → Kp st (parLoop len f acc st).2
  | 0, acc, st, n => Kp.refl n
  | f + 1, acc, st, n => by
    rw [parLoop]
    split
    · have h1 := next_kp n
      have n1 := h1.nv n
      have h2 := name_kp n1 len
      exact h1.trans (h2.trans (parLoop_kp len f _ _ (h2.nv n1)))
    · exact Kp.refl n
theorem par_kp (len f : Nat) (st : PS) (n : Nv st) : Kp st (parP len f st).2 := by
  unfold parP
  split
  · exact next_kp n
  · have h1 := name_kp n len
    have n1 := h1.nv n
    have h2 := parLoop_kp len f [(st.name len).1] _ n1
    exact h1.trans (h2.trans (psign_kp (h2.nv n1) len _))
theorem funA_kp (len : Nat) (st : PS) (n : Nv st) : Kp st (funA len st).2 := (pword_kp n len _).trans (name_kp ((pword_kp n len _).nv n) len)
theorem funB_kp (len f : Nat) (st : PS) (n : Nv st) : Kp st (funB len f st).2 := by
  have h1 := funA_kp len st n
  have n1 := h1.nv n
  have h2 := psign_kp n1 len ⟨#[40]⟩
  exact h1.trans (h2.trans (par_kp len f _ (h2.nv n1)))
theorem fun_kp (len : Nat) {bl : Rdr} (hb : GoodR bl) (f : Nat) (st : PS) (n : Nv st) : Kp st (funP len bl f st).2 := (funB_kp len f st n).trans (hb _ ((funB_kp len f st n).nv n))
theorem funs_kp (len : Nat) {bl : Rdr} (hb : GoodR bl) (f : Nat) : ∀ (j : Nat) (acc : List PFn) (st : PS), Nv st → Kp st (funsP len bl f j acc st).2
  | 0, acc, st, n => Kp.refl n
  | j + 1, acc, st, n => by
    rw [funsP]
    split
    · exact Kp.refl n
    · exact (fun_kp len hb f st n).trans (funs_kp len hb f j _ _ ((fun_kp len hb f st n).nv n))

end Go.Proofs.YtgkiihjakbnhcaaGreatDoor
