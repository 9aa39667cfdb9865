/- What is read is no longer than what there was. · Expressions: all who read them, tied together. · Reading statements and functions, as plain functions; what is read is shorter than what there was. · The small readers of statements. -/
import Derived.Test.YtlgdjeiendmniaaGreatDoorZg13
import Derived.Test.YtlgdjeiendmniaaGreatDoorZg15
import Derived.Test.YtlgdjeiendmniaaGreatDoorZg16
import Derived.Test.YtlgdjeiendmniaaGreatDoorZg17
import Derived.Test.YtlgdjeiendmniaaGreatDoorZg18
import Derived.Test.YtlgdjeiendmniaaGreatDoorZg19
import Derived.Test.YtlgdjeiendmniaaGreatDoorZg20
set_option linter.unusedSimpArgs false
set_option linter.unusedVariables false
set_option maxRecDepth 10000

namespace Go.Proofs.YtlgdjeiendmniaaGreatDoor
open Go.RowKit

theorem next_le (st : PS) : st.next.ts.length ≤ st.ts.length := by simp [PS.next]
theorem next_lt_of {st : PS} (h : st.ts ≠ []) : st.next.ts.length < st.ts.length := by
  cases e : st.ts with
  | nil => exact absurd e h
  | cons t r => simp [PS.next, e]
theorem fail_le (st : PS) (len : Nat) (c : Int) : (st.fail len c).ts.length ≤ st.ts.length := by rw [fail_ts]; exact Nat.zero_le _
theorem word_le (st : PS) (len : Nat) (s : ByteArray) : (st.word len s).ts.length ≤ st.ts.length := by
  unfold PS.word
  split
  · exact next_le _
  · exact fail_le _ _ _
theorem psign_le (st : PS) (len : Nat) (s : ByteArray) : (st.sign len s).ts.length ≤ st.ts.length := by
  unfold PS.sign
  split
  · exact next_le _
  · exact fail_le _ _ _
theorem name_le (st : PS) (len : Nat) : (st.name len).2.ts.length ≤ st.ts.length := by
  unfold PS.name
  split
  · exact next_le _
  · exact fail_le _ _ _
theorem isW_ne {st : PS} {s : ByteArray} (h : st.isW s = true) : st.ts ≠ [] := by
  intro e
  unfold PS.isW isT at h
  rw [e] at h
  exact absurd h (by simp [hdT, tkZ])
theorem takeW_le (st : PS) (s : ByteArray) : (st.takeW s).2.ts.length ≤ st.ts.length := by
  unfold PS.takeW
  split
  · exact next_le _
  · exact Nat.le_refl _
theorem takeW_lt {st : PS} {s : ByteArray} (h : st.isW s = true) : (st.takeW s).2.ts.length < st.ts.length := by
  unfold PS.takeW
  rw [if_pos h]
  exact next_lt_of (isW_ne h)

/-- A sign that has to stand there leaves less, or nothing. -/
theorem psign_lt {st : PS} (len : Nat) (s : ByteArray) (h : st.ts ≠ []) : (st.sign len s).ts.length < st.ts.length := by
  unfold PS.sign
  split
  · exact next_lt_of h
  · rw [fail_ts]; exact List.length_pos_iff.2 h
theorem word_lt {st : PS} (len : Nat) (s : ByteArray) (h : st.ts ≠ []) : (st.word len s).ts.length < st.ts.length := by
  unfold PS.word
  split
  · exact next_lt_of h
  · rw [fail_ts]; exact List.length_pos_iff.2 h
theorem name_lt {st : PS} (len : Nat) (h : st.ts ≠ []) : (st.name len).2.ts.length < st.ts.length := by
  unfold PS.name
  split
  · exact next_lt_of h
  · rw [fail_ts]; exact List.length_pos_iff.2 h
theorem isCall_ne {st : PS} (h : st.isCall = true) : st.ts ≠ [] := by
  intro e
  unfold PS.isCall at h
  rw [e] at h
  exact absurd h (by simp [hdT, tkZ])

abbrev Shorter (r : Rdr) : Prop := ∀ s, (r s).2.ts.length ≤ s.ts.length

theorem more_le {len : Nat} {ex : Rdr} (h : Shorter ex) : ∀ (f : Nat) (acc : List PN) (st : PS), (moreP len ex f acc st).2.ts.length ≤ st.ts.length
  | 0, acc, st => Nat.le_refl _
  | f + 1, acc, st => by
    rw [moreP]
    have h1 := (takeS_len st ⟨#[44]⟩).1
    cases e : st.takeS ⟨#[44]⟩ with
    | mk b s1 =>
      rw [e] at h1
      cases b
      · exact h1
      · exact Nat.le_trans (more_le h f _ _) (Nat.le_trans (h s1) h1)
theorem ops_le {len : Nat} {ex : Rdr} (h : Shorter ex) (f : Nat) (c : ByteArray) (st : PS) : (opsP len ex f c st).2.ts.length ≤ st.ts.length := by
  unfold opsP
  have h1 := (takeS_len st c).1
  cases e : st.takeS c with
  | mk b s1 =>
    rw [e] at h1
    cases b
    · exact Nat.le_trans (psign_le _ _ _) (Nat.le_trans (more_le h f _ _) (Nat.le_trans (h s1) h1))
    · exact h1
theorem lit_le (len : Nat) : Shorter (litP len) := by
  intro st
  unfold litP
  split
  · exact next_le _
  split
  · exact next_le _
  split
  · exact next_le _
  split
  · exact next_le _
  · exact fail_le _ _ _
theorem list_le {len : Nat} {ex : Rdr} (h : Shorter ex) (f : Nat) : Shorter (listP len ex f) := fun st =>
  Nat.le_trans (ops_le h f _ _) (Nat.le_trans (psign_le _ _ _) (enter_le _ _))
theorem call_le {len : Nat} {ex : Rdr} (h : Shorter ex) (f : Nat) : Shorter (callP len ex f) := fun st =>
  Nat.le_trans (ops_le h f _ _) (Nat.le_trans (psign_le _ _ _) (Nat.le_trans (name_le _ _) (enter_le _ _)))
theorem inBr_le {len : Nat} {ex : Rdr} (h : Shorter ex) (c : ByteArray) : Shorter (inBrP len ex c) := fun st =>
  Nat.le_trans (psign_le _ _ _) (Nat.le_trans (h _) (Nat.le_trans (next_le _) (enter_le _ _)))
theorem sgl_le {len : Nat} {ex : Rdr} (h : Shorter ex) (f : Nat) : Shorter (sglP len ex f) := by
  intro st
  unfold sglP
  split
  · exact inBr_le h _ _
  split
  · exact list_le h _ _
  split
  · exact next_le _
  split
  · exact call_le h _ _
  · exact lit_le _ _
theorem ixLoop_le {len : Nat} {ex : Rdr} (h : Shorter ex) : ∀ (f : Nat) (n : PN) (st : PS), (ixLoopP len ex f n st).2.ts.length ≤ st.ts.length
  | 0, n, st => Nat.le_refl _
  | f + 1, n, st => by
    rw [ixLoopP]
    cases st.oper 7 with
    | none => exact Nat.le_refl _
    | some o => exact Nat.le_trans (ixLoop_le h f _ _) (inBr_le h _ _)
theorem idx_le {len : Nat} {ex : Rdr} (h : Shorter ex) (f : Nat) : Shorter (idxP len ex f) := fun st =>
  Nat.le_trans (ixLoop_le h f _ _) (sgl_le h f st)
theorem sgn_le {len : Nat} {sg ex : Rdr} (hs : Shorter sg) (h : Shorter ex) (f : Nat) : Shorter (sgnP len sg ex f) := by
  intro st
  unfold sgnP
  cases st.oper 6 with
  | none => exact idx_le h f st
  | some o => exact Nat.le_trans (hs _) (Nat.le_trans (next_le _) (enter_le _ _))
theorem loop_le {lv : Int} {sub : Rdr} (h : Shorter sub) : ∀ (f : Nat) (n : PN) (st : PS), (loopP lv sub f n st).2.ts.length ≤ st.ts.length
  | 0, n, st => Nat.le_refl _
  | f + 1, n, st => by
    rw [loopP]
    have h1 := takeO_le st lv
    cases e : st.takeO lv with
    | mk b s1 =>
      rw [e] at h1
      cases b
      · exact h1
      · exact Nat.le_trans (loop_le h f _ _) (Nat.le_trans (h s1) h1)
theorem lev_le {lv : Int} {sub : Rdr} (h : Shorter sub) (f : Nat) : Shorter (levP lv sub f) := fun st => Nat.le_trans (loop_le h f _ _) (h st)
theorem cmp_le {sub : Rdr} (h : Shorter sub) : Shorter (cmpP sub) := by
  intro st
  unfold cmpP
  have h1 := takeO_le (sub st).2 3
  cases e : (sub st).2.takeO 3 with
  | mk b s1 =>
    rw [e] at h1
    cases b
    · exact Nat.le_trans h1 (h st)
    · exact Nat.le_trans (h s1) (Nat.le_trans h1 (h st))
theorem prd_le {sg : Rdr} (h : Shorter sg) (f : Nat) : Shorter (prdP sg f) := lev_le h f
theorem sum_le {sg : Rdr} (h : Shorter sg) (f : Nat) : Shorter (sumP sg f) := lev_le (prd_le h f) f
theorem bot_le {sg : Rdr} (h : Shorter sg) (f : Nat) : Shorter (botP sg f) := lev_le (cmp_le (sum_le h f)) f
theorem or_le {sg : Rdr} (h : Shorter sg) (f : Nat) : Shorter (orP sg f) := lev_le (bot_le h f) f
theorem both_le (len : Nat) : ∀ f, Shorter (bothP len f).1 ∧ Shorter (bothP len f).2
  | 0 => ⟨fun _ => Nat.le_refl _, fun _ => Nat.le_refl _⟩
  | f + 1 => by
    obtain ⟨h1, h2⟩ := both_le len f
    rw [bothP]
    exact ⟨sgn_le h1 h2 _, or_le (sgn_le h1 h2 _) _⟩
theorem ex_le (len f : Nat) : Shorter (exP len f) := (both_le len f).2

end Go.Proofs.YtlgdjeiendmniaaGreatDoor

namespace Go.Proofs.YtlgdjeiendmniaaGreatDoor
open Go.RowKit

/-- A function of the reader's reads as r says, from wherever fewer than f words are left. -/
abbrev RdIs (g len : Nat) (fid : FuncId) (r : Rdr) (f : Nat) : Prop := ∀ (st : PS) (W : World), st.ts.length < f → Rs W g len st → Calls Tryz.prog fid #[.pointer (some ⟨g, 0, none⟩)] W (Tree g len W (r st))

theorem RdIs.ex {g len : Nat} {fid : FuncId} {r : Rdr} {f : Nat} (h : RdIs g len fid r f) (st : PS) (w : World) (hl : st.ts.length < f) : ExIs g len fid r st w := fun W _ hR => h st W hl hR

theorem enter_next_lt {st : PS} (len : Nat) (h : st.ts ≠ []) : (st.enter len).next.ts.length < st.ts.length := by
  have h1 := enter_le st len
  have h4 : (st.enter len).next.ts.length = (st.enter len).ts.length - 1 := by simp [PS.next]
  have := List.length_pos_iff.2 h
  omega
theorem enter_sign_lt {st : PS} (len : Nat) (s : ByteArray) (h : st.ts ≠ []) : ((st.enter len).sign len s).ts.length < st.ts.length := by
  have h0 := List.length_pos_iff.2 h
  have h1 := psign_le (st.enter len) len s
  by_cases e : (st.enter len).ts = []
  · rw [e] at h1; simp at h1; rw [h1]; exact h0
  · exact Nat.lt_of_lt_of_le (psign_lt len s e) (enter_le st len)
theorem enter_name_lt {st : PS} (len : Nat) (h : st.ts ≠ []) : ((st.enter len).name len).2.ts.length < st.ts.length := by
  have h0 := List.length_pos_iff.2 h
  have h1 := name_le (st.enter len) len
  by_cases e : (st.enter len).ts = []
  · rw [e] at h1; simp at h1; rw [h1]; exact h0
  · exact Nat.lt_of_lt_of_le (name_lt len e) (enter_le st len)

theorem brIs {g len f : Nat} {ex : Rdr} (h : RdIs g len 147 ex f) (c : ByteArray) (st : PS) (W : World) (hne : st.ts ≠ []) (hl : st.ts.length < f + 1) (hR : Rs W g len st) :
    Calls Tryz.prog 201 #[.pointer (some ⟨g, 0, none⟩), .string c] W (Tree g len W (inBrP len ex c st)) :=
  inBr_any len g ex st c W hR (h.ex _ _ (by have := enter_next_lt len hne; omega))

theorem sglIs {g len f : Nat} {ex : Rdr} (hf : f < 100000) (hsh : Shorter ex) (h : RdIs g len 147 ex f) : RdIs g len 200 (sglP len ex (f + 1)) (f + 1) := by
  intro st W hl hR
  refine sgl_any len g ex (f + 1) st W hR (fun hb W' _ hR' => brIs h _ st W' (isS_ne hb) hl hR') (fun hb W' _ hR' => ?_) (fun hb W' _ hR' => ?_)
  · have h1 := enter_sign_lt len ⟨#[91]⟩ (isS_ne hb)
    exact list_any len g ex (f + 1) st W' hR' (fun W2 _ hR2 => ops_any len g ex (f + 1) ⟨#[93]⟩ _ W2 hR2 (by omega) (by omega) hsh (fun s hs => h.ex s _ (by omega)))
  · have h1 := enter_name_lt len (isCall_ne hb)
    have h2 := psign_le ((st.enter len).name len).2 len ⟨#[40]⟩
    exact call_any len g ex (f + 1) st W' hR' (fun W2 _ hR2 => ops_any len g ex (f + 1) ⟨#[41]⟩ _ W2 hR2 (by omega) (by omega) hsh (fun s hs => h.ex s _ (by omega)))

theorem idxIs {g len f : Nat} {ex : Rdr} (hf : f < 100000) (hsh : Shorter ex) (h : RdIs g len 147 ex f) : RdIs g len 194 (idxP len ex (f + 1)) (f + 1) := fun st W hl hR =>
  idx_any len g ex (f + 1) st W hR hl hsh (fun W' _ hR' => sglIs hf hsh h st W' hl hR') (sgl_le hsh _ st) (fun s hs hne W' _ hR' => brIs h _ s W' hne (by omega) hR')

theorem sgnIs {g len f : Nat} {sg ex : Rdr} (hf : f < 100000) (hsh : Shorter ex) (hs : RdIs g len 189 sg f) (h : RdIs g len 147 ex f) : RdIs g len 189 (sgnP len sg ex (f + 1)) (f + 1) := fun st W hl hR =>
  sgn_any len g sg ex (f + 1) st W hR (fun _ W' _ hR' => idxIs hf hsh h st W' hl hR') (fun hb => hs.ex _ _ (by have := enter_next_lt len (oper_some_ne hb); omega))

theorem levels {g len f : Nat} {sg : Rdr} (hsh : Shorter sg) (h : RdIs g len 189 sg f) : RdIs g len 147 (orP sg f) f := by
  have h5 : RdIs g len 186 (prdP sg f) f := fun st W hl hR => lev5_any len g sg f st W hR hl hsh (fun s hs => h.ex s W (by omega))
  have h4 : RdIs g len 181 (sumP sg f) f := fun st W hl hR => lev4_any len g (prdP sg f) f st W hR hl (prd_le hsh f) (fun s hs => h5.ex s W (by omega))
  have h3 : RdIs g len 171 (cmpP (sumP sg f)) f := fun st W hl hR => cmp_any len g (sumP sg f) st W hR (sum_le hsh f) (fun s hs => h4.ex s W (by omega))
  have h2 : RdIs g len 159 (botP sg f) f := fun st W hl hR => lev2_any len g (cmpP (sumP sg f)) f st W hR hl (cmp_le (sum_le hsh f)) (fun s hs => h3.ex s W (by omega))
  exact fun st W hl hR => lev1_any len g (botP sg f) f st W hR hl (bot_le hsh f) (fun s hs => h2.ex s W (by omega))

theorem both_one (len f : Nat) : (bothP len (f + 1)).1 = sgnP len (bothP len f).1 (bothP len f).2 (f + 1) := by rw [bothP]
theorem both_two (len f : Nat) : (bothP len (f + 1)).2 = orP (sgnP len (bothP len f).1 (bothP len f).2 (f + 1)) (f + 1) := by rw [bothP]

theorem ex_all (g len B : Nat) (hB : B = 100000) (f : Nat) : f ≤ B → RdIs g len 189 (bothP len f).1 f ∧ RdIs g len 147 (bothP len f).2 f := by
  induction f with
  | zero => exact fun _ => ⟨fun st W hl _ => absurd hl (Nat.not_lt_zero _), fun st W hl _ => absurd hl (Nat.not_lt_zero _)⟩
  | succ f ih =>
    intro hf
    obtain ⟨h1, h2⟩ := ih (by omega)
    obtain ⟨s1, s2⟩ := both_le len f
    have hs := sgnIs (by omega) s2 h1 h2
    have he := levels (sg := sgnP len (bothP len f).1 (bothP len f).2 (f + 1)) (sgn_le s1 s2 _) hs
    rw [both_one, both_two]
    exact ⟨hs, he⟩

/-- An expression is read as exP says. -/
theorem exIs (g len f : Nat) (hf : f ≤ 100000) : RdIs g len 147 (exP len f) f := by
  have h := (ex_all g len 100000 rfl f hf).2
  unfold exP
  exact h

end Go.Proofs.YtlgdjeiendmniaaGreatDoor

namespace Go.Proofs.YtlgdjeiendmniaaGreatDoor
open Go.RowKit

def ofExP (len : Nat) (ex : Rdr) (k : Int) (st : PS) : PN × PS := (⟨k, 0, emptyB, 0, [(ex st).1]⟩, (ex st).2.sign len ⟨#[59]⟩)
def plainP (len : Nat) (k : Int) (st : PS) : PN × PS := (⟨k, 0, emptyB, 0, []⟩, st.sign len ⟨#[59]⟩)
def answerP (len : Nat) (ex : Rdr) (st : PS) : PN × PS := if st.isS ⟨#[59]⟩ then plainP len 7 st else ofExP len ex 7 st
def namedP (len : Nat) (ex : Rdr) (k : Int) (st : PS) : PN × PS :=
  (⟨k, 0, (st.name len).1, 0, (ofExP len ex k ((st.name len).2.sign len ⟨#[61]⟩)).1.l⟩, (ofExP len ex k ((st.name len).2.sign len ⟨#[61]⟩)).2)
def PS.isSet (st : PS) : Bool := ((hdT st.ts 0).k == 1) && isT (hdT st.ts 1) 6 ⟨#[61]⟩

/-- A block's statements end here. -/
def PS.stop (st : PS) : Bool := ((st.ts.length : Int) == 0) || st.isS ⟨#[125]⟩
def blkLoop (sm : Rdr) : Nat → List PN → PS → List PN × PS
  | 0, acc, st => (acc, st)
  | f + 1, acc, st => if st.stop then (acc, st) else blkLoop sm f (acc ++ [(sm st).1]) (sm st).2
def blkP (len : Nat) (sm : Rdr) (f : Nat) (st : PS) : PN × PS :=
  if st.isS ⟨#[123]⟩ then (⟨10, 0, emptyB, 0, (blkLoop sm f [] (st.enter len).next).1⟩, ((blkLoop sm f [] (st.enter len).next).2.sign len ⟨#[125]⟩).leave) else (⟨10, 0, emptyB, 0, []⟩, st.fail len 10)
def choP (ex bl ot : Rdr) (st : PS) : PN × PS :=
  if (bl (ex st).2).2.isW ⟨#[101, 108, 115, 101]⟩ then (⟨3, 0, emptyB, 0, [(ex st).1, (bl (ex st).2).1, (ot (bl (ex st).2).2.next).1]⟩, (ot (bl (ex st).2).2.next).2)
  else (⟨3, 0, emptyB, 0, [(ex st).1, (bl (ex st).2).1]⟩, (bl (ex st).2).2)
def othP (ch bl : Rdr) (st : PS) : PN × PS :=
  if st.isW ⟨#[105, 102]⟩ then (⟨10, 0, emptyB, 0, [(ch st.next).1]⟩, (ch st.next).2) else bl st
def whiP (ex bl : Rdr) (st : PS) : PN × PS := (⟨4, 0, emptyB, 0, [(ex st).1, (bl (ex st).2).1]⟩, (bl (ex st).2).2)
def stmP (len : Nat) (ex bl ch : Rdr) (st : PS) : PN × PS :=
  if st.isW ⟨#[108, 101, 116]⟩ then namedP len ex 1 st.next else
  if st.isSet then namedP len ex 2 st else
  if st.isW ⟨#[105, 102]⟩ then ch st.next else
  if st.isW ⟨#[119, 104, 105, 108, 101]⟩ then whiP ex bl st.next else
  if st.isW ⟨#[98, 114, 101, 97, 107]⟩ then plainP len 5 st.next else
  if st.isW ⟨#[99, 111, 110, 116, 105, 110, 117, 101]⟩ then plainP len 6 st.next else
  if st.isW ⟨#[114, 101, 116, 117, 114, 110]⟩ then answerP len ex st.next else
  if st.isW ⟨#[112, 114, 105, 110, 116]⟩ then ofExP len ex 8 st.next else ofExP len ex 9 st

/-- The readers of statements, of blocks, and of what stands behind an if. -/
def stsP (len fe : Nat) : Nat → Rdr × Rdr × Rdr
  | 0 => (fun st => (nodeZ, st), fun st => (nodeZ, st), fun st => (nodeZ, st))
  | f + 1 => (stmP len (exP len fe) (stsP len fe f).2.1 (stsP len fe f).2.2, blkP len (stsP len fe f).1 (f + 1), choP (exP len fe) (blkP len (stsP len fe f).1 (f + 1)) (othP (stsP len fe f).2.2 (stsP len fe f).2.1))

/-- A function as plain data. -/
structure PFn where
  nm : ByteArray
  ps : List ByteArray
  bd : PN

def parLoop (len : Nat) : Nat → List ByteArray → PS → List ByteArray × PS
  | 0, acc, st => (acc, st)
  | f + 1, acc, st => if st.isS ⟨#[44]⟩ then parLoop len f (acc ++ [(st.next.name len).1]) (st.next.name len).2 else (acc, st)
def parP (len f : Nat) (st : PS) : List ByteArray × PS :=
  if st.isS ⟨#[41]⟩ then ([], st.next) else ((parLoop len f [(st.name len).1] (st.name len).2).1, (parLoop len f [(st.name len).1] (st.name len).2).2.sign len ⟨#[41]⟩)
def funA (len : Nat) (st : PS) : ByteArray × PS := (st.word len ⟨#[102, 110]⟩).name len
def funB (len f : Nat) (st : PS) : List ByteArray × PS := parP len f ((funA len st).2.sign len ⟨#[40]⟩)
def funP (len : Nat) (bl : Rdr) (f : Nat) (st : PS) : PFn × PS := (⟨(funA len st).1, (funB len f st).1, (bl (funB len f st).2).1⟩, (bl (funB len f st).2).2)
def funsP (len : Nat) (bl : Rdr) (f : Nat) : Nat → List PFn → PS → List PFn × PS
  | 0, acc, st => (acc, st)
  | j + 1, acc, st => if ((st.ts.length : Int) == 0) then (acc, st) else funsP len bl f j (acc ++ [(funP len bl f st).1]) (funP len bl f st).2

theorem sign_lt_of {s : PS} {n : Nat} (len : Nat) (c : ByteArray) (h : s.ts.length ≤ n) (hn : 0 < n) : (s.sign len c).ts.length < n := by
  unfold PS.sign
  split
  · rename_i hb; exact Nat.lt_of_lt_of_le (next_lt hb) h
  · rw [fail_ts]; exact hn

theorem ofEx_lt {len : Nat} {ex : Rdr} (h : Shorter ex) (k : Int) {st : PS} {n : Nat} (hs : st.ts.length ≤ n) (hn : 0 < n) : (ofExP len ex k st).2.ts.length < n :=
  sign_lt_of len _ (Nat.le_trans (h st) hs) hn
theorem ofEx_le {len : Nat} {ex : Rdr} (h : Shorter ex) (k : Int) : Shorter (ofExP len ex k) := fun st => Nat.le_trans (psign_le _ _ _) (h st)
theorem named_lt {len : Nat} {ex : Rdr} (h : Shorter ex) (k : Int) {st : PS} {n : Nat} (hs : st.ts.length ≤ n) (hn : 0 < n) : (namedP len ex k st).2.ts.length < n :=
  ofEx_lt h k (Nat.le_trans (psign_le _ _ _) (Nat.le_trans (name_le _ _) hs)) hn
theorem plain_lt {len : Nat} (k : Int) {st : PS} {n : Nat} (hs : st.ts.length ≤ n) (hn : 0 < n) : (plainP len k st).2.ts.length < n := sign_lt_of len _ hs hn
theorem answer_lt {len : Nat} {ex : Rdr} (h : Shorter ex) {st : PS} {n : Nat} (hs : st.ts.length ≤ n) (hn : 0 < n) : (answerP len ex st).2.ts.length < n := by
  unfold answerP
  split
  · exact plain_lt 7 hs hn
  · exact ofEx_lt h 7 hs hn

theorem blkLoop_le {sm : Rdr} (h : Shorter sm) : ∀ (f : Nat) (acc : List PN) (st : PS), (blkLoop sm f acc st).2.ts.length ≤ st.ts.length
  | 0, acc, st => Nat.le_refl _
  | f + 1, acc, st => by
    rw [blkLoop]
    split
    · exact Nat.le_refl _
    · exact Nat.le_trans (blkLoop_le h f _ _) (h st)
theorem blk_le {len : Nat} {sm : Rdr} (h : Shorter sm) (f : Nat) : Shorter (blkP len sm f) := by
  intro st
  unfold blkP
  split
  · exact Nat.le_trans (psign_le _ _ _) (Nat.le_trans (blkLoop_le h f _ _) (Nat.le_trans (next_le _) (enter_le _ _)))
  · exact fail_le _ _ _
theorem cho_le {ex bl ot : Rdr} (h : Shorter ex) (hb : Shorter bl) (ho : Shorter ot) : Shorter (choP ex bl ot) := by
  intro st
  unfold choP
  split
  · exact Nat.le_trans (ho _) (Nat.le_trans (next_le _) (Nat.le_trans (hb _) (h st)))
  · exact Nat.le_trans (hb _) (h st)
theorem oth_le {ch bl : Rdr} (h : Shorter ch) (hb : Shorter bl) : Shorter (othP ch bl) := by
  intro st
  unfold othP
  split
  · exact Nat.le_trans (h _) (next_le _)
  · exact hb st
theorem whi_le {ex bl : Rdr} (h : Shorter ex) (hb : Shorter bl) : Shorter (whiP ex bl) := fun st => Nat.le_trans (hb _) (h st)
theorem stm_lt {len : Nat} {ex bl ch : Rdr} (h : Shorter ex) (hb : Shorter bl) (hc : Shorter ch) {st : PS} (hne : st.ts ≠ []) : (stmP len ex bl ch st).2.ts.length < st.ts.length := by
  have h0 := List.length_pos_iff.2 hne
  have h1 := next_lt_of hne
  unfold stmP
  split
  · exact named_lt h 1 (next_le _) h0
  split
  · exact named_lt h 2 (Nat.le_refl _) h0
  split
  · exact Nat.lt_of_le_of_lt (hc _) h1
  split
  · exact Nat.lt_of_le_of_lt (whi_le h hb _) h1
  split
  · exact plain_lt 5 (next_le _) h0
  split
  · exact plain_lt 6 (next_le _) h0
  split
  · exact answer_lt h (next_le _) h0
  split
  · exact ofEx_lt h 8 (next_le _) h0
  · exact ofEx_lt h 9 (Nat.le_refl _) h0
theorem sign_nil {s : PS} (len : Nat) (c : ByteArray) (h : s.ts = []) : (s.sign len c).ts = [] := by
  have := psign_le s len c
  rw [h] at this
  exact List.length_eq_zero_iff.1 (Nat.le_zero.1 this)
theorem stm_le {len : Nat} {ex bl ch : Rdr} (h : Shorter ex) (hb : Shorter bl) (hc : Shorter ch) : Shorter (stmP len ex bl ch) := by
  intro st
  by_cases hne : st.ts = []
  · have hW : ∀ s, st.isW s = false := fun s => by cases e : st.isW s with | false => rfl | true => exact absurd hne (isW_ne e)
    have hS : st.isSet = false := by unfold PS.isSet; rw [hne]; simp [hdT, tkZ]
    unfold stmP
    rw [hW, hS, hW, hW, hW, hW, hW, hW]
    simp only [Bool.false_eq_true, if_false]
    exact ofEx_le h 9 st
  · exact Nat.le_of_lt (stm_lt h hb hc hne)
theorem sts_le (len fe : Nat) : ∀ f, Shorter (stsP len fe f).1 ∧ Shorter (stsP len fe f).2.1 ∧ Shorter (stsP len fe f).2.2
  | 0 => ⟨fun _ => Nat.le_refl _, fun _ => Nat.le_refl _, fun _ => Nat.le_refl _⟩
  | f + 1 => by
    obtain ⟨h1, h2, h3⟩ := sts_le len fe f
    rw [stsP]
    exact ⟨stm_le (ex_le len fe) h2 h3, blk_le h1 _, cho_le (ex_le len fe) (blk_le h1 _) (oth_le h3 h2)⟩

theorem parLoop_le (len : Nat) : ∀ (f : Nat) (acc : List ByteArray) (st : PS), (parLoop len f acc st).2.ts.length ≤ st.ts.length
  | 0, acc, st => Nat.le_refl _
  | f + 1, acc, st => by
    rw [parLoop]
    split
    · exact Nat.le_trans (parLoop_le len f _ _) (Nat.le_trans (name_le _ _) (next_le _))
    · exact Nat.le_refl _
theorem par_le (len f : Nat) (st : PS) : (parP len f st).2.ts.length ≤ st.ts.length := by
  unfold parP
  split
  · exact next_le _
  · exact Nat.le_trans (psign_le _ _ _) (Nat.le_trans (parLoop_le _ _ _ _) (name_le _ _))
theorem funA_lt {len : Nat} {st : PS} (hne : st.ts ≠ []) : (funA len st).2.ts.length < st.ts.length := Nat.lt_of_le_of_lt (name_le _ _) (word_lt len _ hne)
theorem funB_lt {len f : Nat} {st : PS} (hne : st.ts ≠ []) : (funB len f st).2.ts.length < st.ts.length := Nat.lt_of_le_of_lt (Nat.le_trans (par_le _ _ _) (psign_le _ _ _)) (funA_lt hne)
theorem fun_lt {len f : Nat} {bl : Rdr} (hb : Shorter bl) {st : PS} (hne : st.ts ≠ []) : (funP len bl f st).2.ts.length < st.ts.length := Nat.lt_of_le_of_lt (hb _) (funB_lt hne)

end Go.Proofs.YtlgdjeiendmniaaGreatDoor

namespace Go.Proofs.YtlgdjeiendmniaaGreatDoor
open Go.RowKit

set_option maxHeartbeats 2000000 in
theorem plain_any (len g : Nat) (k : Int) (st : PS) (w : World) (hS : St w g len st) :
    Calls Tryz.prog 148 #[.pointer (some ⟨g, 0, none⟩), .int .i64 k] w (Tree g len w (plainP len k st)) := by
  have hg : g < w.heap.size := hS.lt
  unfold plainP
  have HG := hide (fun W (x : Ext w W) => psign_any len g st ⟨#[59]⟩ W (hS.ext x))
  clear hS
  go_enter Tryz.func148, Tryz.ntmps148
  go_wp2_with (go_at_call 77; refine Calls.mono (unhide HG _ (Ext.alloc _ _)) ?_; rintro e w2 ⟨rfl, hs, hw⟩; have RD := hide (hw.row (Go.heap_alloc_new w _) (by omega)); have r0 := rowC (unhide RD) 0 rfl; have r1 := rowC (unhide RD) 1 rfl; have r2 := rowC (unhide RD) 2 rfl; have r3 := rowC (unhide RD) 3 rfl; have r4 := rowC (unhide RD) 4 rfl; have rz := rowF (unhide RD); have S3 := hide hs; have X3 := hide ((Gr.of (Ext.alloc w _)).trans hw); clear hw hs)
  exact bodyPost_ret (v := nodV k 0 emptyB 0 (.slice none 0 0)) (by simp [results, Tryz.results148, go_sem, r0, r1, r2, r3, r4]) rfl (tree_end (l := []) hg (unhide S3) (unhide X3) (Nat.zero_le _) (by simp [RepNL]))

set_option maxHeartbeats 4000000 in
theorem ofEx_any (len g : Nat) (ex : Rdr) (kd : Int) (st : PS) (w : World) (hR : Rs w g len st) (hex : ExIs g len 147 ex st w) :
    Calls Tryz.prog 150 #[.pointer (some ⟨g, 0, none⟩), .int .i64 kd] w (Tree g len w (ofExP len ex kd st)) := by
  have hg : g < w.heap.size := hR.st.lt
  unfold ofExP
  have HX := hide hex
  unfold ExIs at HX
  clear hex
  generalize ex st = q at HX
  obtain ⟨⟨k, o, s, n, l⟩, st3⟩ := q
  have HG := hide (fun W (x : St W g len st3) => psign_any len g st3 ⟨#[59]⟩ W x)
  have HR := hide hR
  clear hR
  go_enter Tryz.func150, Tryz.ntmps150
  go_wp2_with (first
    | (go_at_call 147; refine Calls.mono (unhide HX _ (Gr.of (Ext.alloc _ _)) ((unhide HR).alloc _)) ?_; rintro e w1 ⟨v, rfl, hr, hs, hw⟩; rw [RepN] at hr; obtain ⟨a, cap, rfl, hcap, hl⟩ := hr; have RB := hide (hw.row (Go.heap_alloc_new w _) (by omega)); have S1 := hide hs; have L1 := hide hl; have X1 := hide ((Gr.of (Ext.alloc _ _)).trans hw); have hlt1 : w.heap.size < w1.heap.size := (Array.getElem?_eq_some_iff.1 (unhide RB)).1; clear hw hs hl)
    | (go_at_call 77; refine Calls.mono (unhide HG _ (((unhide S1).alloc _).alloc _)) ?_; rintro e w2 ⟨rfl, hs, hw⟩; have RC := hide (hw.row ((Ext.alloc _ _).row ((Ext.alloc _ _).row (unhide RB))) (by omega)); have RI := hide (hw.row ((Ext.alloc _ _).row (Go.heap_alloc_new w1 _)) (by omega)); have RN := hide (hw.row (Go.heap_alloc_new (w1.alloc _) _) (by simp; omega)); have r0 := rowC (unhide RC) 0 rfl; have r1 := rowC (unhide RC) 1 rfl; have r2 := rowC (unhide RC) 2 rfl; have r3 := rowC (unhide RC) 3 rfl; have r4 := rowC (unhide RC) 4 rfl; have rz := rowF (unhide RC); have d0 := rowC (unhide RN) 0 rfl; have d1 := rowC (unhide RN) 1 rfl; have d2 := rowC (unhide RN) 2 rfl; have d3 := rowC (unhide RN) 3 rfl; have d4 := rowC (unhide RN) 4 rfl; simp only [size_alloc] at d0 d1 d2 d3 d4; have S2 := hide hs; have G2 := hide ((Gr.of ((Ext.alloc _ _).trans (Ext.alloc _ _))).trans hw); have X2 := hide ((unhide X1).trans (unhide G2)); have hlt2 : w1.heap.size < w2.heap.size := (Array.getElem?_eq_some_iff.1 (unhide RI)).1; clear hw hs))
  have L2 : RepNL w2 (fun b => w.heap.size < b ∧ b < w2.heap.size) l a := (unhide L1).gr (unhide G2) (by simp; omega) (by simp)
  have T2 := tree_end (l := [⟨k, o, s, n, l⟩]) hg (unhide S2) (unhide X2) (Nat.le_refl 1) (one_rep (F := fun b => w.heap.size < b ∧ b < w2.heap.size) (unhide RI) ⟨hlt1, hlt2⟩ hcap L2) (k := kd) (o := 0) (n := 0) (s := emptyB)
  exact bodyPost_ret (v := nodV kd 0 emptyB 0 (.slice (some ⟨w1.heap.size, 0, none⟩) 1 1)) (by simp [results, Tryz.results150, go_sem, r0, r1, r2, r3, r4]) rfl T2

set_option maxHeartbeats 4000000 in
theorem answer_any (len g : Nat) (ex : Rdr) (st : PS) (w : World) (hR : Rs w g len st) (hex : ExIs g len 147 ex st w) :
    Calls Tryz.prog 149 #[.pointer (some ⟨g, 0, none⟩)] w (Tree g len w (answerP len ex st)) := by
  have hg : g < w.heap.size := hR.st.lt
  unfold answerP
  have HS := hide (fun W (x : Ext w W) => isSign_any len g st ⟨#[59]⟩ W (hR.st.ext x))
  have HP := hide (fun W (x : Ext w W) => plain_any len g 7 st W (hR.st.ext x))
  have HO := hide (fun W (x : Ext w W) => ofEx_any len g ex 7 st W (hR.ext x) (fun W' x' h => hex W' ((Gr.of x).trans x') h))
  clear hR hex
  cases hb : st.isS ⟨#[59]⟩
  · rw [if_neg (by decide)]
    rw [hb] at HS
    generalize ofExP len ex 7 st = q at HO
    obtain ⟨⟨k, o, s, n, l⟩, st3⟩ := q
    go_enter Tryz.func149, Tryz.ntmps149
    go_wp2_with (first
      | (go_at_call 114; refine Calls.mono (unhide HS _ (Ext.alloc w _)) ?_; rintro e w1 ⟨rfl, hw⟩; have RB := hide (hw.row (Go.heap_alloc_new w _)); have X1 := hide ((Ext.alloc _ _).trans hw); have hlt1 : w.heap.size < w1.heap.size := (Array.getElem?_eq_some_iff.1 (unhide RB)).1; clear hw)
      | (go_at_call 150; refine Calls.mono (unhide HO _ (unhide X1)) ?_; rintro e w2 ⟨v, rfl, hr, hs, hw⟩; rw [RepN] at hr; obtain ⟨a, cap, rfl, hcap, hl⟩ := hr; have RD := hide (hw.row (unhide RB) (by omega)); have r0 := rowC (unhide RD) 0 rfl; have r1 := rowC (unhide RD) 1 rfl; have r2 := rowC (unhide RD) 2 rfl; have r3 := rowC (unhide RD) 3 rfl; have r4 := rowC (unhide RD) 4 rfl; have rz := rowF (unhide RD); have S3 := hide hs; have L3 := hide hl; have X3 := hide ((Gr.of (unhide X1)).trans hw); clear hw hs hl))
    exact bodyPost_ret (v := nodV k o s n (.slice a l.length cap)) (by simp [results, Tryz.results149, go_sem, r0, r1, r2, r3, r4]) rfl (tree_end hg (unhide S3) (unhide X3) hcap ((unhide L3).gr (Gr.refl g _) (by omega) (by omega)) (k := k) (o := o) (n := n) (s := s))
  · rw [if_pos rfl]
    rw [hb] at HS
    generalize plainP len 7 st = q at HP
    obtain ⟨⟨k, o, s, n, l⟩, st3⟩ := q
    go_enter Tryz.func149, Tryz.ntmps149
    go_wp2_with (first
      | (go_at_call 114; refine Calls.mono (unhide HS _ (Ext.alloc w _)) ?_; rintro e w1 ⟨rfl, hw⟩; have RB := hide (hw.row (Go.heap_alloc_new w _)); have X1 := hide ((Ext.alloc _ _).trans hw); have hlt1 : w.heap.size < w1.heap.size := (Array.getElem?_eq_some_iff.1 (unhide RB)).1; clear hw)
      | (go_at_call 148; refine Calls.mono (unhide HP _ (unhide X1)) ?_; rintro e w2 ⟨v, rfl, hr, hs, hw⟩; rw [RepN] at hr; obtain ⟨a, cap, rfl, hcap, hl⟩ := hr; have RD := hide (hw.row (unhide RB) (by omega)); have r0 := rowC (unhide RD) 0 rfl; have r1 := rowC (unhide RD) 1 rfl; have r2 := rowC (unhide RD) 2 rfl; have r3 := rowC (unhide RD) 3 rfl; have r4 := rowC (unhide RD) 4 rfl; have rz := rowF (unhide RD); have S3 := hide hs; have L3 := hide hl; have X3 := hide ((Gr.of (unhide X1)).trans hw); clear hw hs hl))
    exact bodyPost_ret (v := nodV k o s n (.slice a l.length cap)) (by simp [results, Tryz.results149, go_sem, r0, r1, r2, r3, r4]) rfl (tree_end hg (unhide S3) (unhide X3) hcap ((unhide L3).gr (Gr.refl g _) (by omega) (by omega)) (k := k) (o := o) (n := n) (s := s))

set_option maxHeartbeats 4000000 in
theorem named_any (len g : Nat) (ex : Rdr) (kd : Int) (st : PS) (w : World) (hR : Rs w g len st) (hex : ExIs g len 147 ex ((st.name len).2.sign len ⟨#[61]⟩) w) :
    Calls Tryz.prog 144 #[.pointer (some ⟨g, 0, none⟩), .int .i64 kd] w (Tree g len w (namedP len ex kd st)) := by
  have hg : g < w.heap.size := hR.st.lt
  unfold namedP
  have HN := hide (fun W (x : St W g len st) => name_p len g st W x)
  have HG := hide (fun W (x : St W g len (st.name len).2) => psign_any len g (st.name len).2 ⟨#[61]⟩ W x)
  have HO := hide (fun W (x : Gr g w W) (y : Rs W g len ((st.name len).2.sign len ⟨#[61]⟩)) => ofEx_any len g ex kd _ W y (fun W' x' h => hex W' (x.trans x') h))
  have HR := hide hR
  clear hR hex
  have hq : (ofExP len ex kd ((st.name len).2.sign len ⟨#[61]⟩)).1 = ⟨kd, 0, emptyB, 0, (ofExP len ex kd ((st.name len).2.sign len ⟨#[61]⟩)).1.l⟩ := rfl
  generalize (st.name len).1 = nm at HN ⊢
  generalize ofExP len ex kd ((st.name len).2.sign len ⟨#[61]⟩) = q at HO hq ⊢
  obtain ⟨⟨k, o, s, n, l⟩, st3⟩ := q
  injection hq with e1 e2 e3 e4 e5
  subst e1 e2 e3 e4
  clear e5
  go_enter Tryz.func144, Tryz.ntmps144
  go_wp2_with (first
    | (go_at_call 76; refine Calls.mono (unhide HN _ ((unhide HR).st.alloc _)) ?_; rintro e w1 ⟨rfl, hs, hw⟩; have RB := hide (hw.row (Go.heap_alloc_new w _) (by omega)); have S1 := hide hs; have X1 := hide ((Gr.of (Ext.alloc _ _)).trans hw); clear hw hs)
    | (go_at_call 77; refine Calls.mono (unhide HG _ (unhide S1)) ?_; rintro e w2 ⟨rfl, hs, hw⟩; have RC := hide (hw.row (unhide RB) (by omega)); have S2 := hide hs; have X2 := hide ((unhide X1).trans hw); have hlt2 : w.heap.size < w2.heap.size := (Array.getElem?_eq_some_iff.1 (unhide RC)).1; clear hw hs)
    | (go_at_call 150; refine Calls.mono (unhide HO _ (unhide X2) ((unhide HR).go (unhide X2) (unhide S2))) ?_; rintro e w3 ⟨v, rfl, hr, hs, hw⟩; rw [RepN] at hr; obtain ⟨a, cap, rfl, hcap, hl⟩ := hr; have RD := hide (hw.row (unhide RC) (by omega)); have r0 := rowC (unhide RD) 0 rfl; have r1 := rowC (unhide RD) 1 rfl; have r2 := rowC (unhide RD) 2 rfl; have r3 := rowC (unhide RD) 3 rfl; have r4 := rowC (unhide RD) 4 rfl; have rz := rowF (unhide RD); have S3 := hide hs; have L3 := hide hl; have X3 := hide ((unhide X2).trans hw); have hlt3 : w.heap.size < w3.heap.size := (Array.getElem?_eq_some_iff.1 (unhide RD)).1; clear hw hs hl))
  have T3 := tree_end hg (unhide S3) (unhide X3) hcap ((unhide L3).gr (Gr.refl g _) (by omega) (by omega)) (k := k) (o := 0) (n := 0) (s := nm)
  have e0 := set5_past (unhide RD) k 0 nm 0 (.slice a l.length cap) 0 _ rfl
  have e1 := set5_past (unhide RD) k 0 nm 0 (.slice a l.length cap) 1 _ rfl
  have e2 := set5_past (unhide RD) k 0 nm 0 (.slice a l.length cap) 2 _ rfl
  have e3 := set5_past (unhide RD) k 0 nm 0 (.slice a l.length cap) 3 _ rfl
  have e4 := set5_past (unhide RD) k 0 nm 0 (.slice a l.length cap) 4 _ rfl
  exact bodyPost_ret (v := nodV k 0 nm 0 (.slice a l.length cap)) (by simp [results, Tryz.results144, go_sem, e0, e1, e2, e3, e4]) rfl (T3.gr hg (Gr.of (Ext.alloc _ _)) (((unhide S3).set5 hg _ _ _ _ _).alloc _))

set_option maxHeartbeats 1000000 in
theorem isSet_any (len g : Nat) (st : PS) (w : World) (hS : St w g len st) :
    Calls Tryz.prog 145 #[.pointer (some ⟨g, 0, none⟩)] w fun e w' => e = .returned (.bool st.isSet) ∧ Ext w w' := by
  have HA := hide (fun W (x : Ext w W) => ahead_any len g st 0 0 rfl W (hS.ext x))
  have HB := hide (fun W (x : Ext w W) => ahead_any len g st 1 1 rfl W (hS.ext x))
  unfold PS.isSet isT
  clear hS
  generalize hdT st.ts 0 = y at *
  generalize hdT st.ts 1 = z at *
  cases hk : (y.k == 1)
  · go_enter Tryz.func145, Tryz.ntmps145
    go_wp2_with (go_at_call 111; refine Calls.mono (unhide HA _ (Ext.refl _)) ?_; rintro e w1 ⟨rfl, hw⟩; have X := hide hw; clear hw)
    go_ret
    exact ⟨rfl, unhide X⟩
  · go_enter Tryz.func145, Tryz.ntmps145
    go_wp2_with (first
      | (have G := unhide Y; clear G; go_at_call 143; refine Calls.mono (is_any _ _ _ _ _ _ _) ?_; rintro e w3 ⟨rfl, hw⟩; have Z := hide ((unhide Y).trans hw); clear hw)
      | (have G := unhide X; clear G; go_at_call 111; refine Calls.mono (unhide HB _ (unhide X)) ?_; rintro e w2 ⟨rfl, hw⟩; have Y := hide ((unhide X).trans hw); clear hw)
      | (go_at_call 111; refine Calls.mono (unhide HA _ (Ext.refl _)) ?_; rintro e w1 ⟨rfl, hw⟩; have X := hide hw; clear hw))
    go_ret
    exact ⟨by rw [Bool.true_and, show (⟨#[61]⟩ : ByteArray).toList = [61] by simp]; rfl, unhide Z⟩

end Go.Proofs.YtlgdjeiendmniaaGreatDoor
