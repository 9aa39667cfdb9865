/- What is read is no longer than what there was. -/
import Derived.Test.YtbcflcnkhhkogaaGreatDoorZb7
set_option linter.unusedSimpArgs false
set_option linter.unusedVariables false
set_option maxRecDepth 10000

namespace Go.Proofs.YtbcflcnkhhkogaaGreatDoor
open Go.RowKit

theorem next_le (st : PS) : st.next.ts.length ≤ st.ts.length := by simp [PS.next]
theorem next_lt_of {st : PS} (h : st.ts ≠ []) : st.next.ts.length < st.ts.length := by
  cases e : st.ts with
  | nil => exact absurd e h
  | cons t r => simp [PS.next, e]
theorem fail_le (st : PS) (len : Nat) (c : Int) : (st.fail len c).ts.length ≤ st.ts.length := by rw [fail_ts]; exact Nat.zero_le _
theorem word_le (st : PS) (len : Nat) (s : ByteArray) : (st.word len s).ts.length ≤ st.ts.length := by
  unfold PS.word
  split
  · exact next_le _
  · exact fail_le _ _ _
theorem psign_le (st : PS) (len : Nat) (s : ByteArray) : (st.sign len s).ts.length ≤ st.ts.length := by
  unfold PS.sign
  split
  · exact next_le _
  · exact fail_le _ _ _
theorem name_le (st : PS) (len : Nat) : (st.name len).2.ts.length ≤ st.ts.length := by
  unfold PS.name
  split
  · exact next_le _
  · exact fail_le _ _ _
theorem isW_ne {st : PS} {s : ByteArray} (h : st.isW s = true) : st.ts ≠ [] := by
  intro e
  unfold PS.isW isT at h
  rw [e] at h
  exact absurd h (by simp [hdT, tkZ])
theorem takeW_le (st : PS) (s : ByteArray) : (st.takeW s).2.ts.length ≤ st.ts.length := by
  unfold PS.takeW
  split
  · exact next_le _
  · exact Nat.le_refl _
theorem takeW_lt {st : PS} {s : ByteArray} (h : st.isW s = true) : (st.takeW s).2.ts.length < st.ts.length := by
  unfold PS.takeW
  rw [if_pos h]
  exact next_lt_of (isW_ne h)

/-- A sign that has to stand there leaves less, or nothing. -/
theorem psign_lt {st : PS} (len : Nat) (s : ByteArray) (h : st.ts ≠ []) : (st.sign len s).ts.length < st.ts.length := by
  unfold PS.sign
  split
  · exact next_lt_of h
  · rw [fail_ts]; exact List.length_pos_iff.2 h
theorem word_lt {st : PS} (len : Nat) (s : ByteArray) (h : st.ts ≠ []) : (st.word len s).ts.length < st.ts.length := by
  unfold PS.word
  split
  · exact next_lt_of h
  · rw [fail_ts]; exact List.length_pos_iff.2 h
theorem name_lt {st : PS} (len : Nat) (h : st.ts ≠ []) : (st.name len).2.ts.length < st.ts.length := by
  unfold PS.name
  split
  · exact next_lt_of h
  · rw [fail_ts]; exact List.length_pos_iff.2 h
theorem isCall_ne {st : PS} (h : st.isCall = true) : st.ts ≠ [] := by
  intro e
  unfold PS.isCall at h
  rw [e] at h
  exact absurd h (by simp [hdT, tkZ])

abbrev Shorter (r : Rdr) : Prop := ∀ s, (r s).2.ts.length ≤ s.ts.length

theorem more_le {len : Nat} {ex : Rdr} (h : Shorter ex) : ∀ (f : Nat) (acc : List PN) (st : PS), (moreP len ex f acc st).2.ts.length ≤ st.ts.length
  | 0, acc, st => Nat.le_refl _
  | f + 1, acc, st => by
    rw [moreP]
    have h1 := (takeS_len st ⟨#[44]⟩).1
    cases e : st.takeS ⟨#[44]⟩ with
    | mk b s1 =>
      rw [e] at h1
      cases b
      · exact h1
      · exact Nat.le_trans (more_le h f _ _) (Nat.le_trans (h s1) h1)
theorem ops_le {len : Nat} {ex : Rdr} (h : Shorter ex) (f : Nat) (c : ByteArray) (st : PS) : (opsP len ex f c st).2.ts.length ≤ st.ts.length := by
  unfold opsP
  have h1 := (takeS_len st c).1
  cases e : st.takeS c with
  | mk b s1 =>
    rw [e] at h1
    cases b
    · exact Nat.le_trans (psign_le _ _ _) (Nat.le_trans (more_le h f _ _) (Nat.le_trans (h s1) h1))
    · exact h1
theorem lit_le (len : Nat) : Shorter (litP len) := by
  intro st
  unfold litP
  split
  · exact next_le _
  split
  · exact next_le _
  split
  · exact next_le _
  split
  · exact next_le _
  · exact fail_le _ _ _
theorem list_le {len : Nat} {ex : Rdr} (h : Shorter ex) (f : Nat) : Shorter (listP len ex f) := fun st =>
  Nat.le_trans (ops_le h f _ _) (Nat.le_trans (psign_le _ _ _) (enter_le _ _))
theorem call_le {len : Nat} {ex : Rdr} (h : Shorter ex) (f : Nat) : Shorter (callP len ex f) := fun st =>
  Nat.le_trans (ops_le h f _ _) (Nat.le_trans (psign_le _ _ _) (Nat.le_trans (name_le _ _) (enter_le _ _)))
theorem inBr_le {len : Nat} {ex : Rdr} (h : Shorter ex) (c : ByteArray) : Shorter (inBrP len ex c) := fun st =>
  Nat.le_trans (psign_le _ _ _) (Nat.le_trans (h _) (Nat.le_trans (next_le _) (enter_le _ _)))
theorem sgl_le {len : Nat} {ex : Rdr} (h : Shorter ex) (f : Nat) : Shorter (sglP len ex f) := by
  intro st
  unfold sglP
  split
  · exact inBr_le h _ _
  split
  · exact list_le h _ _
  split
  · exact next_le _
  split
  · exact call_le h _ _
  · exact lit_le _ _
theorem ixLoop_le {len : Nat} {ex : Rdr} (h : Shorter ex) : ∀ (f : Nat) (n : PN) (st : PS), (ixLoopP len ex f n st).2.ts.length ≤ st.ts.length
  | 0, n, st => Nat.le_refl _
  | f + 1, n, st => by
    rw [ixLoopP]
    cases st.oper 7 with
    | none => exact Nat.le_refl _
    | some o => exact Nat.le_trans (ixLoop_le h f _ _) (inBr_le h _ _)
theorem idx_le {len : Nat} {ex : Rdr} (h : Shorter ex) (f : Nat) : Shorter (idxP len ex f) := fun st =>
  Nat.le_trans (ixLoop_le h f _ _) (sgl_le h f st)
theorem sgn_le {len : Nat} {sg ex : Rdr} (hs : Shorter sg) (h : Shorter ex) (f : Nat) : Shorter (sgnP len sg ex f) := by
  intro st
  unfold sgnP
  cases st.oper 6 with
  | none => exact idx_le h f st
  | some o => exact Nat.le_trans (hs _) (Nat.le_trans (next_le _) (enter_le _ _))
theorem loop_le {lv : Int} {sub : Rdr} (h : Shorter sub) : ∀ (f : Nat) (n : PN) (st : PS), (loopP lv sub f n st).2.ts.length ≤ st.ts.length
  | 0, n, st => Nat.le_refl _
  | f + 1, n, st => by
    rw [loopP]
    have h1 := takeO_le st lv
    cases e : st.takeO lv with
    | mk b s1 =>
      rw [e] at h1
      cases b
      · exact h1
      · exact Nat.le_trans (loop_le h f _ _) (Nat.le_trans (h s1) h1)
theorem lev_le {lv : Int} {sub : Rdr} (h : Shorter sub) (f : Nat) : Shorter (levP lv sub f) := fun st => Nat.le_trans (loop_le h f _ _) (h st)
theorem cmp_le {sub : Rdr} (h : Shorter sub) : Shorter (cmpP sub) := by
  intro st
  unfold cmpP
  have h1 := takeO_le (sub st).2 3
  cases e : (sub st).2.takeO 3 with
  | mk b s1 =>
    rw [e] at h1
    cases b
    · exact Nat.le_trans h1 (h st)
    · exact Nat.le_trans (h s1) (Nat.le_trans h1 (h st))
theorem prd_le {sg : Rdr} (h : Shorter sg) (f : Nat) : Shorter (prdP sg f) := lev_le h f
theorem sum_le {sg : Rdr} (h : Shorter sg) (f : Nat) : Shorter (sumP sg f) := lev_le (prd_le h f) f
theorem bot_le {sg : Rdr} (h : Shorter sg) (f : Nat) : Shorter (botP sg f) := lev_le (cmp_le (sum_le h f)) f
theorem or_le {sg : Rdr} (h : Shorter sg) (f : Nat) : Shorter (orP sg f) := lev_le (bot_le h f) f
theorem both_le (len : Nat) : ∀ f, Shorter (bothP len f).1 ∧ Shorter (bothP len f).2
  | 0 => ⟨fun _ => Nat.le_refl _, fun _ => Nat.le_refl _⟩
  | f + 1 => by
    obtain ⟨h1, h2⟩ := both_le len f
    rw [bothP]
    exact ⟨sgn_le h1 h2 _, or_le (sgn_le h1 h2 _) _⟩
theorem ex_le (len f : Nat) : Shorter (exP len f) := (both_le len f).2

end Go.Proofs.YtbcflcnkhhkogaaGreatDoor
