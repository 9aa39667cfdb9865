/- The reader of a value's text, at the texts of lists within lists: what each of its steps does to the reader's own two cells. -/
import Derived.Test.YtmcmfgihdhfcdaaDoorValAwake
import Derived.Test.YtmcmfgihdhfcdaaDoorShelfIn
set_option linter.unusedSimpArgs false
set_option maxRecDepth 10000
namespace Go.Proofs.YtmcmfgihdhfcdaaDoor
open Go.RowKit

/-- The reader's two cells: the rest of the text, and the room. -/
def Rd (w : World) (R : Nat) (s : ByteArray) (m : Int) : Prop := w.heap[R]? = some (.cells #[.string s, .int .i64 m] 43 (0, 0))

theorem grown_set {w : World} {R i : Nat} {v : Value} : w.grownBy (w.setCell ⟨R, i, none⟩ v) (some R) :=
  ⟨rfl, rfl, rfl, by simp [World.setCell], fun k _ hne => Below.heap_setCell _ _ _ _ (fun e => hne (by rw [e]))⟩

theorem grown_trans {a b c : World} {r : Option Nat} (h : a.grownBy b r) (k : b.grownBy c r) : a.grownBy c r :=
  ⟨k.os.trans h.os, k.tape.trans h.tape, k.output.trans h.output, Nat.le_trans h.size k.size, fun i hi hne => (k.block i (Nat.lt_of_lt_of_le hi h.size) hne).trans (h.block i hi hne)⟩

theorem ext_grown {a b : World} {r : Option Nat} (h : Ext a b) : a.grownBy b r := ⟨h.os, h.tape, h.output, h.size, fun k hk _ => h.block k hk⟩

theorem rd_ext {a b : World} {R : Nat} {s : ByteArray} {m : Int} (h : Rd a R s m) (e : Ext a b) : Rd b R s m := e.row h

theorem ext_parse {w w' : World} {e : TypeId} (h : w' = w ∨ ∃ t, w' = Lib.bytesWorld w e t) : Ext w w' := by
  rcases h with rfl | ⟨t, rfl⟩
  · exact Ext.refl _
  · exact Lib.bytesWorld_below _ _ _
theorem grown_setN {a b : World} {r : Option Nat} (h : a.grownBy b r) {N : Nat} (hN : a.heap.size ≤ N) (i : Nat) (v : Value) : a.grownBy (b.setCell ⟨N, i, none⟩ v) r :=
  ⟨h.os, h.tape, h.output, by simpa [World.setCell] using h.size, fun k hk hne => (Below.heap_setCell _ _ _ _ (by show k ≠ N; omega)).trans (h.block k hk hne)⟩
theorem rd_set {w : World} {R : Nat} {s : ByteArray} {m : Int} (h : Rd w R s m) {N : Nat} (hN : R ≠ N) (i : Nat) (v : Value) : Rd (w.setCell ⟨N, i, none⟩ v) R s m := by
  unfold Rd
  rw [Below.heap_setCell _ _ _ _ hN]
  exact h

theorem spend_any (R : Nat) (s : ByteArray) (m : Int) (w : World) (hr : Rd w R s m) (h1 : 1 ≤ m) (h2 : m ≤ 1000) :
    Calls Tryd.prog 28 #[.pointer (some ⟨R, 0, none⟩)] w fun e w' => e = .returned (.bool true) ∧ Rd w' R s (m - 1) ∧ w.grownBy w' (some R) := by
  have h0 := rowC hr 0 rfl
  have h3 := rowC hr 1 rfl
  have hf := rowF hr
  have H := hide hr
  clear hr
  go_enter Tryd.func28, Tryd.ntmps28
  go_wp2_with fail
  go_ret
  refine ⟨ret_bool (by simp), ?_, grown_set⟩
  have := row_set (unhide H) 1 (.int .i64 (m - 1))
  exact this

theorem skip_yes (R : Nat) (l l' : List UInt8) (p : ByteArray) (m : Int) (w : World) (hr : Rd w R ⟨l.toArray⟩ m) (hp : Lib.hasPrefix l p.data.toList = true) (ht : Lib.trimPrefix l p.data.toList = l') :
    Calls Tryd.prog 29 #[.pointer (some ⟨R, 0, none⟩), .string p] w fun e w' => e = .returned (.bool true) ∧ Rd w' R ⟨l'.toArray⟩ m ∧ w.grownBy w' (some R) := by
  have h0 := rowC hr 0 rfl
  have h3 := rowC hr 1 rfl
  have hf := rowF hr
  have H := hide hr
  have hc := fun w => Tryd.strings_CutPrefix ⟨l.toArray⟩ p w
  simp only [List.toList_toArray, hp, ht] at hc
  have C := hide hc
  clear hr hc hp ht
  go_enter Tryd.func29, Tryd.ntmps29
  go_wp2_with (go_at_call 41; refine Calls.mono (unhide C _) ?_; rintro e w' ⟨rfl, rfl⟩)
  go_ret
  exact ⟨rfl, row_set (unhide H) 0 _, grown_set⟩

theorem skip_no (R : Nat) (l : List UInt8) (p : ByteArray) (m : Int) (w : World) (hr : Rd w R ⟨l.toArray⟩ m) (hp : Lib.hasPrefix l p.data.toList = false) :
    Calls Tryd.prog 29 #[.pointer (some ⟨R, 0, none⟩), .string p] w fun e w' => e = .returned (.bool false) ∧ Rd w' R ⟨l.toArray⟩ m ∧ w.grownBy w' (some R) := by
  have h0 := rowC hr 0 rfl
  have h3 := rowC hr 1 rfl
  have hf := rowF hr
  have H := hide hr
  have hc := fun w => Tryd.strings_CutPrefix ⟨l.toArray⟩ p w
  have ht : Lib.trimPrefix l p.data.toList = l := by unfold Lib.trimPrefix; simp [hp]
  simp only [List.toList_toArray, hp, ht] at hc
  have C := hide hc
  clear hr hc hp ht
  go_enter Tryd.func29, Tryd.ntmps29
  go_wp2_with (go_at_call 41; refine Calls.mono (unhide C _) ?_; rintro e w' ⟨rfl, rfl⟩)
  go_ret
  exact ⟨rfl, row_set (unhide H) 0 _, grown_set⟩

theorem cut_one (R : Nat) (s t : ByteArray) (m : Int) (w : World) (hr : Rd w R s m) (hs : 1 ≤ s.size) (e1 : s.extract 0 1 = ⟨#[53]⟩) (e2 : s.extract 1 s.size = t) :
    Calls Tryd.prog 45 #[.pointer (some ⟨R, 0, none⟩), .int .i64 1] w fun e w' => e = .returned (.string ⟨#[53]⟩) ∧ Rd w' R t m ∧ w.grownBy w' (some R) := by
  have h0 := rowC hr 0 rfl
  have h3 := rowC hr 1 rfl
  have hf := rowF hr
  have H := hide hr
  clear hr
  go_enter Tryd.func45, Tryd.ntmps45
  go_wp2_with fail
  go_ret
  exact ⟨rfl, row_set (unhide H) 0 _, grown_set⟩

theorem numberEnd_one (s : ByteArray) (w : World) (hs : s.size = 1) (h0 : s[0]'(by omega) = 53) :
    Calls Tryd.prog 49 #[.string s] w fun e w' => e = .returned (.int .i64 1) ∧ w' = w := by
  go_enter Tryd.func49, Tryd.ntmps49
  go_wp2_with fail
  go_loop [3] (fun i => ∃ j : Nat, j ≤ 1 ∧ i = .int .i64 j) (fun i => 1 - (intOf i).toNat)
  case atStart => exact ⟨0, by omega, rfl⟩
  case round =>
    obtain ⟨j, hj, rfl⟩ := hrel
    by_cases hj0 : j = 0
    · subst hj0
      go_wp2_with fail
      exact ⟨⟨1, by omega, rfl⟩, by simp [intOf]⟩
    · have : j = 1 := by omega
      subst this
      go_wp2_with fail
      go_ret
      exact ⟨rfl, rfl⟩

theorem numberEnd_two (s : ByteArray) (w : World) (hs : 2 ≤ s.size) (h0 : s[0]'(by omega) = 53) (h1 : s[1]'(by omega) = 93) :
    Calls Tryd.prog 49 #[.string s] w fun e w' => e = .returned (.int .i64 1) ∧ w' = w := by
  go_enter Tryd.func49, Tryd.ntmps49
  go_wp2_with fail
  go_loop [3] (fun i => ∃ j : Nat, j ≤ 1 ∧ i = .int .i64 j) (fun i => 1 - (intOf i).toNat)
  case atStart => exact ⟨0, by omega, rfl⟩
  case round =>
    obtain ⟨j, hj, rfl⟩ := hrel
    by_cases hj0 : j = 0
    · subst hj0
      go_wp2_with fail
      exact ⟨⟨1, by omega, rfl⟩, by simp [intOf]⟩
    · have : j = 1 := by omega
      subst this
      go_wp2_with fail
      go_ret
      exact ⟨rfl, rfl⟩

/-- So many lists' opening marks, a five, so many closing ones, and what stands behind. -/
def Tx : Nat → List UInt8 → List UInt8
  | 0, tail => 53 :: tail
  | k + 1, tail => 91 :: Tx k (93 :: tail)

/-- What may stand behind a number here. -/
def Stops (tail : List UInt8) : Prop := tail = [] ∨ ∃ t, tail = 93 :: t

theorem five_parse : Lib.parseIntB 64 [53] = .ok 5 := by decide

theorem numberEnd_any (tail : List UInt8) (h : Stops tail) (w : World) :
    Calls Tryd.prog 49 #[.string ⟨(53 :: tail).toArray⟩] w fun e w' => e = .returned (.int .i64 1) ∧ w' = w := by
  rcases h with rfl | ⟨t, rfl⟩
  · exact numberEnd_one _ w rfl rfl
  · exact numberEnd_two _ w (by simp [ByteArray.size]) rfl rfl

theorem ext1 (tail : List UInt8) : (⟨(53 :: tail).toArray⟩ : ByteArray).extract 0 1 = ⟨#[53]⟩ := by
  apply ByteArray.ext
  rw [ByteArray.data_extract]
  simp
theorem ext2 (tail : List UInt8) : (⟨(53 :: tail).toArray⟩ : ByteArray).extract 1 (⟨(53 :: tail).toArray⟩ : ByteArray).size = ⟨tail.toArray⟩ := by
  apply ByteArray.ext
  rw [ByteArray.data_extract]
  simp [ByteArray.size]

abbrev fiveV : Value := .agg #[.int .i64 1, .int .i64 5, .complex .f64 0 0, .string ⟨#[]⟩, .slice none 0 0]

theorem number_any (R : Nat) (tail : List UInt8) (m : Int) (w : World) (hr : Rd w R ⟨(53 :: tail).toArray⟩ m) (hst : Stops tail) :
    Calls Tryd.prog 34 #[.pointer (some ⟨R, 0, none⟩)] w fun e w' => e = .returned (.tuple #[fiveV, .bool true]) ∧ Rd w' R ⟨tail.toArray⟩ m ∧ w.grownBy w' (some R) := by
  have hlt : R < w.heap.size := (Array.getElem?_eq_some_iff.1 hr).1
  have h0 := rowC hr 0 rfl
  have H := hide hr
  have hE := hide (fun w => numberEnd_any tail hst w)
  have hC := hide (fun w hr => cut_one R ⟨(53 :: tail).toArray⟩ ⟨tail.toArray⟩ m w hr (by simp [ByteArray.size]) (ext1 tail) (ext2 tail))
  have hP := hide (fun w => Tryd.strconv_ParseInt_10_at64_ok ⟨#[53]⟩ (by decide) 5 five_parse w)
  have hne : some w.heap.size ≠ some R := by simp; omega
  have NE := hide hne
  clear hr hst hne
  obtain ⟨s, hs⟩ : ∃ s : ByteArray, s = ⟨(53 :: tail).toArray⟩ := ⟨_, rfl⟩
  rw [← hs] at h0 H hE hC
  clear hs
  go_enter Tryd.func34, Tryd.ntmps34
  go_wp2_with (first
    | (go_at_call 49; refine Calls.mono (unhide hE _) ?_; rintro e w' ⟨rfl, rfl⟩)
    | (go_at_call 45; refine Calls.mono (unhide hC _ (rd_ext (unhide H) (Ext.alloc _ _))) ?_; rintro e w1 ⟨rfl, hr1, hg1⟩; have row1 := grown_row hg1 (Go.heap_alloc_new w _) (unhide NE); have ROW1 := hide row1; have R1 := hide hr1; have G1 := hide hg1; clear hr1 hg1 row1)
    | (go_at_call 48; refine Calls.mono (unhide hP _) ?_; rintro e w2 ⟨rfl, hw2⟩; have X2 := hide (ext_parse hw2); clear hw2)
    | (go_at_call 12; refine Calls.mono (int_any _ _) ?_; rintro e w3 ⟨rfl, hw3⟩; have x3 := (unhide X2).trans hw3; have row3 := x3.row (unhide ROW1); have q0 := rowC row3 0 rfl; have q1 := rowC row3 1 rfl; have q2 := rowC row3 2 rfl; have q3 := rowC row3 3 rfl; have q4 := rowC row3 4 rfl; have qf := rowF row3; have X3 := hide x3; clear x3 row3 hw3))
  have hgr := grown_trans (grown_trans (ext_grown (Ext.alloc w _)) (unhide G1)) (ext_grown (unhide X3))
  have hrd := rd_ext (unhide R1) (unhide X3)
  have hRN : R ≠ w.heap.size := by omega
  refine bodyPost_ret (v := .tuple #[fiveV, .bool true]) (by simp [results, Tryd.results34, go_sem, q0, q1, q2, q3, q4]) rfl ⟨rfl, ?_, ?_⟩
  · exact rd_set (rd_set (rd_set (rd_set (rd_set hrd hRN _ _) hRN _ _) hRN _ _) hRN _ _) hRN _ _
  · exact grown_setN (grown_setN (grown_setN (grown_setN (grown_setN hgr (Nat.le_refl _) _ _) (Nat.le_refl _) _ _) (Nat.le_refl _) _ _) (Nat.le_refl _) _ _) (Nat.le_refl _) _ _

end Go.Proofs.YtmcmfgihdhfcdaaDoor
