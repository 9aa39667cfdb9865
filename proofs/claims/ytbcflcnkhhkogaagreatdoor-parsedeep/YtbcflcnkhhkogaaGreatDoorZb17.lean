/- Reading statements and functions, as plain functions; what is read is shorter than what there was. -/
import Derived.Test.YtbcflcnkhhkogaaGreatDoorZb15
set_option linter.unusedSimpArgs false
set_option linter.unusedVariables false
set_option maxRecDepth 10000

namespace Go.Proofs.YtbcflcnkhhkogaaGreatDoor
open Go.RowKit

def ofExP (len : Nat) (ex : Rdr) (k : Int) (st : PS) : PN × PS := (⟨k, 0, emptyB, 0, [(ex st).1]⟩, (ex st).2.sign len ⟨#[59]⟩)
def plainP (len : Nat) (k : Int) (st : PS) : PN × PS := (⟨k, 0, emptyB, 0, []⟩, st.sign len ⟨#[59]⟩)
def answerP (len : Nat) (ex : Rdr) (st : PS) : PN × PS := if st.isS ⟨#[59]⟩ then plainP len 7 st else ofExP len ex 7 st
def namedP (len : Nat) (ex : Rdr) (k : Int) (st : PS) : PN × PS :=
  (⟨k, 0, (st.name len).1, 0, (ofExP len ex k ((st.name len).2.sign len ⟨#[61]⟩)).1.l⟩, (ofExP len ex k ((st.name len).2.sign len ⟨#[61]⟩)).2)
def PS.isSet (st : PS) : Bool := ((hdT st.ts 0).k == 1) && isT (hdT st.ts 1) 6 ⟨#[61]⟩

/-- A block's statements end here. -/
def PS.stop (st : PS) : Bool := ((st.ts.length : Int) == 0) || st.isS ⟨#[125]⟩
def blkLoop (sm : Rdr) : Nat → List PN → PS → List PN × PS
  | 0, acc, st => (acc, st)
  | f + 1, acc, st => if st.stop then (acc, st) else blkLoop sm f (acc ++ [(sm st).1]) (sm st).2
def blkP (len : Nat) (sm : Rdr) (f : Nat) (st : PS) : PN × PS :=
  if st.isS ⟨#[123]⟩ then (⟨10, 0, emptyB, 0, (blkLoop sm f [] (st.enter len).next).1⟩, ((blkLoop sm f [] (st.enter len).next).2.sign len ⟨#[125]⟩).leave) else (⟨10, 0, emptyB, 0, []⟩, st.fail len 10)
def choP (ex bl ot : Rdr) (st : PS) : PN × PS :=
  if (bl (ex st).2).2.isW ⟨#[101, 108, 115, 101]⟩ then (⟨3, 0, emptyB, 0, [(ex st).1, (bl (ex st).2).1, (ot (bl (ex st).2).2.next).1]⟩, (ot (bl (ex st).2).2.next).2)
  else (⟨3, 0, emptyB, 0, [(ex st).1, (bl (ex st).2).1]⟩, (bl (ex st).2).2)
def othP (ch bl : Rdr) (st : PS) : PN × PS :=
  if st.isW ⟨#[105, 102]⟩ then (⟨10, 0, emptyB, 0, [(ch st.next).1]⟩, (ch st.next).2) else bl st
def whiP (ex bl : Rdr) (st : PS) : PN × PS := (⟨4, 0, emptyB, 0, [(ex st).1, (bl (ex st).2).1]⟩, (bl (ex st).2).2)
def stmP (len : Nat) (ex bl ch : Rdr) (st : PS) : PN × PS :=
  if st.isW ⟨#[108, 101, 116]⟩ then namedP len ex 1 st.next else
  if st.isSet then namedP len ex 2 st else
  if st.isW ⟨#[105, 102]⟩ then ch st.next else
  if st.isW ⟨#[119, 104, 105, 108, 101]⟩ then whiP ex bl st.next else
  if st.isW ⟨#[98, 114, 101, 97, 107]⟩ then plainP len 5 st.next else
  if st.isW ⟨#[99, 111, 110, 116, 105, 110, 117, 101]⟩ then plainP len 6 st.next else
  if st.isW ⟨#[114, 101, 116, 117, 114, 110]⟩ then answerP len ex st.next else
  if st.isW ⟨#[112, 114, 105, 110, 116]⟩ then ofExP len ex 8 st.next else ofExP len ex 9 st

/-- The readers of statements, of blocks, and of what stands behind an if. -/
def stsP (len fe : Nat) : Nat → Rdr × Rdr × Rdr
  | 0 => (fun st => (nodeZ, st), fun st => (nodeZ, st), fun st => (nodeZ, st))
  | f + 1 => (stmP len (exP len fe) (stsP len fe f).2.1 (stsP len fe f).2.2, blkP len (stsP len fe f).1 (f + 1), choP (exP len fe) (blkP len (stsP len fe f).1 (f + 1)) (othP (stsP len fe f).2.2 (stsP len fe f).2.1))

/-- A function as plain data. -/
structure PFn where
  nm : ByteArray
  ps : List ByteArray
  bd : PN

def parLoop (len : Nat) : Nat → List ByteArray → PS → List ByteArray × PS
  | 0, acc, st => (acc, st)
  | f + 1, acc, st => if st.isS ⟨#[44]⟩ then parLoop len f (acc ++ [(st.next.name len).1]) (st.next.name len).2 else (acc, st)
def parP (len f : Nat) (st : PS) : List ByteArray × PS :=
  if st.isS ⟨#[41]⟩ then ([], st.next) else ((parLoop len f [(st.name len).1] (st.name len).2).1, (parLoop len f [(st.name len).1] (st.name len).2).2.sign len ⟨#[41]⟩)
def funA (len : Nat) (st : PS) : ByteArray × PS := (st.word len ⟨#[102, 110]⟩).name len
def funB (len f : Nat) (st : PS) : List ByteArray × PS := parP len f ((funA len st).2.sign len ⟨#[40]⟩)
def funP (len : Nat) (bl : Rdr) (f : Nat) (st : PS) : PFn × PS := (⟨(funA len st).1, (funB len f st).1, (bl (funB len f st).2).1⟩, (bl (funB len f st).2).2)
def funsP (len : Nat) (bl : Rdr) (f : Nat) : Nat → List PFn → PS → List PFn × PS
  | 0, acc, st => (acc, st)
  | j + 1, acc, st => if ((st.ts.length : Int) == 0) then (acc, st) else funsP len bl f j (acc ++ [(funP len bl f st).1]) (funP len bl f st).2

theorem sign_lt_of {s : PS} {n : Nat} (len : Nat) (c : ByteArray) (h : s.ts.length ≤ n) (hn : 0 < n) : (s.sign len c).ts.length < n := by
  unfold PS.sign
  split
  · rename_i hb; exact Nat.lt_of_lt_of_le (next_lt hb) h
  · rw [fail_ts]; exact hn

theorem ofEx_lt {len : Nat} {ex : Rdr} (h : Shorter ex) (k : Int) {st : PS} {n : Nat} (hs : st.ts.length ≤ n) (hn : 0 < n) : (ofExP len ex k st).2.ts.length < n :=
  sign_lt_of len _ (Nat.le_trans (h st) hs) hn
theorem ofEx_le {len : Nat} {ex : Rdr} (h : Shorter ex) (k : Int) : Shorter (ofExP len ex k) := fun st => Nat.le_trans (psign_le _ _ _) (h st)
theorem named_lt {len : Nat} {ex : Rdr} (h : Shorter ex) (k : Int) {st : PS} {n : Nat} (hs : st.ts.length ≤ n) (hn : 0 < n) : (namedP len ex k st).2.ts.length < n :=
  ofEx_lt h k (Nat.le_trans (psign_le _ _ _) (Nat.le_trans (name_le _ _) hs)) hn
theorem plain_lt {len : Nat} (k : Int) {st : PS} {n : Nat} (hs : st.ts.length ≤ n) (hn : 0 < n) : (plainP len k st).2.ts.length < n := sign_lt_of len _ hs hn
theorem answer_lt {len : Nat} {ex : Rdr} (h : Shorter ex) {st : PS} {n : Nat} (hs : st.ts.length ≤ n) (hn : 0 < n) : (answerP len ex st).2.ts.length < n := by
  unfold answerP
  split
  · exact plain_lt 7 hs hn
  · exact ofEx_lt h 7 hs hn

theorem blkLoop_le {sm : Rdr} (h : Shorter sm) : ∀ (f : Nat) (acc : List PN) (st : PS), (blkLoop sm f acc st).2.ts.length ≤ st.ts.length
  | 0, acc, st => Nat.le_refl _
  | f + 1, acc, st => by
    rw [blkLoop]
    split
    · exact Nat.le_refl _
    · exact Nat.le_trans (blkLoop_le h f _ _) (h st)
theorem blk_le {len : Nat} {sm : Rdr} (h : Shorter sm) (f : Nat) : Shorter (blkP len sm f) := by
  intro st
  unfold blkP
  split
  · exact Nat.le_trans (psign_le _ _ _) (Nat.le_trans (blkLoop_le h f _ _) (Nat.le_trans (next_le _) (enter_le _ _)))
  · exact fail_le _ _ _
theorem cho_le {ex bl ot : Rdr} (h : Shorter ex) (hb : Shorter bl) (ho : Shorter ot) : Shorter (choP ex bl ot) := by
  intro st
  unfold choP
  split
  · exact Nat.le_trans (ho _) (Nat.le_trans (next_le _) (Nat.le_trans (hb _) (h st)))
  · exact Nat.le_trans (hb _) (h st)
theorem oth_le {ch bl : Rdr} (h : Shorter ch) (hb : Shorter bl) : Shorter (othP ch bl) := by
  intro st
  unfold othP
  split
  · exact Nat.le_trans (h _) (next_le _)
  · exact hb st
theorem whi_le {ex bl : Rdr} (h : Shorter ex) (hb : Shorter bl) : Shorter (whiP ex bl) := fun st => Nat.le_trans (hb _) (h st)
theorem stm_lt {len : Nat} {ex bl ch : Rdr} (h : Shorter ex) (hb : Shorter bl) (hc : Shorter ch) {st : PS} (hne : st.ts ≠ []) : (stmP len ex bl ch st).2.ts.length < st.ts.length := by
  have h0 := List.length_pos_iff.2 hne
  have h1 := next_lt_of hne
  unfold stmP
  split
  · exact named_lt h 1 (next_le _) h0
  split
  · exact named_lt h 2 (Nat.le_refl _) h0
  split
  · exact Nat.lt_of_le_of_lt (hc _) h1
  split
  · exact Nat.lt_of_le_of_lt (whi_le h hb _) h1
  split
  · exact plain_lt 5 (next_le _) h0
  split
  · exact plain_lt 6 (next_le _) h0
  split
  · exact answer_lt h (next_le _) h0
  split
  · exact ofEx_lt h 8 (next_le _) h0
  · exact ofEx_lt h 9 (Nat.le_refl _) h0
theorem sign_nil {s : PS} (len : Nat) (c : ByteArray) (h : s.ts = []) : (s.sign len c).ts = [] := by
  have := psign_le s len c
  rw [h] at this
  exact List.length_eq_zero_iff.1 (Nat.le_zero.1 this)
theorem stm_le {len : Nat} {ex bl ch : Rdr} (h : Shorter ex) (hb : Shorter bl) (hc : Shorter ch) : Shorter (stmP len ex bl ch) := by
  intro st
  by_cases hne : st.ts = []
  · have hW : ∀ s, st.isW s = false := fun s => by cases e : st.isW s with | false => rfl | true => exact absurd hne (isW_ne e)
    have hS : st.isSet = false := by unfold PS.isSet; rw [hne]; simp [hdT, tkZ]
    unfold stmP
    rw [hW, hS, hW, hW, hW, hW, hW, hW]
    simp only [Bool.false_eq_true, if_false]
    exact ofEx_le h 9 st
  · exact Nat.le_of_lt (stm_lt h hb hc hne)
theorem sts_le (len fe : Nat) : ∀ f, Shorter (stsP len fe f).1 ∧ Shorter (stsP len fe f).2.1 ∧ Shorter (stsP len fe f).2.2
  | 0 => ⟨fun _ => Nat.le_refl _, fun _ => Nat.le_refl _, fun _ => Nat.le_refl _⟩
  | f + 1 => by
    obtain ⟨h1, h2, h3⟩ := sts_le len fe f
    rw [stsP]
    exact ⟨stm_le (ex_le len fe) h2 h3, blk_le h1 _, cho_le (ex_le len fe) (blk_le h1 _) (oth_le h3 h2)⟩

theorem parLoop_le (len : Nat) : ∀ (f : Nat) (acc : List ByteArray) (st : PS), (parLoop len f acc st).2.ts.length ≤ st.ts.length
  | 0, acc, st => Nat.le_refl _
  | f + 1, acc, st => by
    rw [parLoop]
    split
    · exact Nat.le_trans (parLoop_le len f _ _) (Nat.le_trans (name_le _ _) (next_le _))
    · exact Nat.le_refl _
theorem par_le (len f : Nat) (st : PS) : (parP len f st).2.ts.length ≤ st.ts.length := by
  unfold parP
  split
  · exact next_le _
  · exact Nat.le_trans (psign_le _ _ _) (Nat.le_trans (parLoop_le _ _ _ _) (name_le _ _))
theorem funA_lt {len : Nat} {st : PS} (hne : st.ts ≠ []) : (funA len st).2.ts.length < st.ts.length := Nat.lt_of_le_of_lt (name_le _ _) (word_lt len _ hne)
theorem funB_lt {len f : Nat} {st : PS} (hne : st.ts ≠ []) : (funB len f st).2.ts.length < st.ts.length := Nat.lt_of_le_of_lt (Nat.le_trans (par_le _ _ _) (psign_le _ _ _)) (funA_lt hne)
theorem fun_lt {len f : Nat} {bl : Rdr} (hb : Shorter bl) {st : PS} (hne : st.ts ≠ []) : (funP len bl f st).2.ts.length < st.ts.length := Nat.lt_of_le_of_lt (hb _) (funB_lt hne)

end Go.Proofs.YtbcflcnkhhkogaaGreatDoor
