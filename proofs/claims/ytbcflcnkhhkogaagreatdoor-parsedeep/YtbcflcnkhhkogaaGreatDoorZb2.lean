/- What stands at the front of a text: a word of the language, an op, a byte of a text between quotes. · Words: none, one that stands there, a name, an op. · Words of digits, perhaps with an i behind them. -/
import Derived.Test.YtbcflcnkhhkogaaGreatDoorZb1
import Derived.Test.YtbcflcnkhhkogaaGreatDoorShelf
import Derived.Lib.ConvBytes
set_option linter.unusedSimpArgs false
set_option maxRecDepth 10000
set_option linter.unusedVariables false

namespace Go.Proofs.YtbcflcnkhhkogaaGreatDoor
open Go.RowKit

theorem toL (s : ByteArray) : s.toList = L s := ByteArray.toList_eq s
/-- The words of the language. -/
def wordL (l : List UInt8) : Bool := l == [102, 110] || l == [108, 101, 116] || l == [105, 102] || l == [101, 108, 115, 101] || l == [119, 104, 105, 108, 101] || l == [98, 114, 101, 97, 107] || l == [99, 111, 110, 116, 105, 110, 117, 101] || l == [114, 101, 116, 117, 114, 110] || l == [112, 114, 105, 110, 116] || l == [110, 105, 108]
/-- The ops of two signs, of one. -/
def o2 (l : List UInt8) : Bool := l == [61, 61] || l == [33, 61] || l == [60, 61] || l == [62, 61] || l == [38, 38] || l == [124, 124]
def o1 (l : List UInt8) : Bool := l == [40] || l == [41] || l == [123] || l == [125] || l == [91] || l == [93] || l == [44] || l == [59] || l == [61] || l == [43] || l == [45] || l == [42] || l == [47] || l == [37] || l == [60] || l == [62] || l == [33]
/-- How long the op at the front is. -/
def opL (l : List UInt8) : Nat := if o2 (l.take 2) then 2 else if o1 (l.take 1) then 1 else 0

set_option maxHeartbeats 4000000 in
theorem isWord_any (s : ByteArray) (w : World) :
    Calls Tryz.prog 138 #[.string s] w fun e w' => e = .returned (.bool (wordL (L s))) ∧ w' = w := by
  have K : Hd (wordL (L s) = wordL s.toList) := by rw [toL]; exact rfl
  go_enter Tryz.func138, Tryz.ntmps138
  go_wp2
  all_goals
    go_ret
    refine ⟨ret_bool ?_, rfl⟩
    rw [unhide K]
    simp_all [wordL]

theorem o2_short (s : ByteArray) (h : s.size = 1) : o2 (s.extract 0 1).toList = false := by
  obtain ⟨x, hx⟩ : ∃ x, (s.extract 0 1).toList = [x] := by
    rw [toL, L_extract, List.drop_zero]
    have hl := L_len s
    match hL : L s with
    | [] => rw [hL] at hl; simp at hl; omega
    | x :: r => exact ⟨x, rfl⟩
  rw [hx]
  simp [o2]

set_option maxHeartbeats 8000000 in
theorem opLen_two (s : ByteArray) (w : World) (h1 : 2 ≤ s.size) (hs : s.size ≤ 140737488355328) :
    Calls Tryz.prog 141 #[.string s] w fun e w' => e = .returned (.int .i64 (opL (L s) : Nat)) ∧ w' = w := by
  have K : Hd (opL (L s) = if o2 (s.extract 0 2).toList then 2 else if o1 (s.extract 0 1).toList then 1 else 0) := by
    rw [toL, toL, L_extract, L_extract, List.drop_zero]; exact rfl
  rcases Bool.eq_false_or_eq_true ((s.extract 0 2).toList == [61, 61]) with p0 | p0
  · (go_enter Tryz.func141, Tryz.ntmps141; go_wp2; go_ret; refine ⟨ret_int ?_, rfl⟩; rw [unhide K]; simp_all [o2, o1])
  rcases Bool.eq_false_or_eq_true ((s.extract 0 2).toList == [33, 61]) with p1 | p1
  · (go_enter Tryz.func141, Tryz.ntmps141; go_wp2; go_ret; refine ⟨ret_int ?_, rfl⟩; rw [unhide K]; simp_all [o2, o1])
  rcases Bool.eq_false_or_eq_true ((s.extract 0 2).toList == [60, 61]) with p2 | p2
  · (go_enter Tryz.func141, Tryz.ntmps141; go_wp2; go_ret; refine ⟨ret_int ?_, rfl⟩; rw [unhide K]; simp_all [o2, o1])
  rcases Bool.eq_false_or_eq_true ((s.extract 0 2).toList == [62, 61]) with p3 | p3
  · (go_enter Tryz.func141, Tryz.ntmps141; go_wp2; go_ret; refine ⟨ret_int ?_, rfl⟩; rw [unhide K]; simp_all [o2, o1])
  rcases Bool.eq_false_or_eq_true ((s.extract 0 2).toList == [38, 38]) with p4 | p4
  · (go_enter Tryz.func141, Tryz.ntmps141; go_wp2; go_ret; refine ⟨ret_int ?_, rfl⟩; rw [unhide K]; simp_all [o2, o1])
  rcases Bool.eq_false_or_eq_true ((s.extract 0 2).toList == [124, 124]) with p5 | p5
  · (go_enter Tryz.func141, Tryz.ntmps141; go_wp2; go_ret; refine ⟨ret_int ?_, rfl⟩; rw [unhide K]; simp_all [o2, o1])
  rcases Bool.eq_false_or_eq_true ((s.extract 0 1).toList == [40]) with q0 | q0
  · (go_enter Tryz.func141, Tryz.ntmps141; go_wp2; go_ret; refine ⟨ret_int ?_, rfl⟩; rw [unhide K]; simp_all [o2, o1])
  rcases Bool.eq_false_or_eq_true ((s.extract 0 1).toList == [41]) with q1 | q1
  · (go_enter Tryz.func141, Tryz.ntmps141; go_wp2; go_ret; refine ⟨ret_int ?_, rfl⟩; rw [unhide K]; simp_all [o2, o1])
  rcases Bool.eq_false_or_eq_true ((s.extract 0 1).toList == [123]) with q2 | q2
  · (go_enter Tryz.func141, Tryz.ntmps141; go_wp2; go_ret; refine ⟨ret_int ?_, rfl⟩; rw [unhide K]; simp_all [o2, o1])
  rcases Bool.eq_false_or_eq_true ((s.extract 0 1).toList == [125]) with q3 | q3
  · (go_enter Tryz.func141, Tryz.ntmps141; go_wp2; go_ret; refine ⟨ret_int ?_, rfl⟩; rw [unhide K]; simp_all [o2, o1])
  rcases Bool.eq_false_or_eq_true ((s.extract 0 1).toList == [91]) with q4 | q4
  · (go_enter Tryz.func141, Tryz.ntmps141; go_wp2; go_ret; refine ⟨ret_int ?_, rfl⟩; rw [unhide K]; simp_all [o2, o1])
  rcases Bool.eq_false_or_eq_true ((s.extract 0 1).toList == [93]) with q5 | q5
  · (go_enter Tryz.func141, Tryz.ntmps141; go_wp2; go_ret; refine ⟨ret_int ?_, rfl⟩; rw [unhide K]; simp_all [o2, o1])
  rcases Bool.eq_false_or_eq_true ((s.extract 0 1).toList == [44]) with q6 | q6
  · (go_enter Tryz.func141, Tryz.ntmps141; go_wp2; go_ret; refine ⟨ret_int ?_, rfl⟩; rw [unhide K]; simp_all [o2, o1])
  rcases Bool.eq_false_or_eq_true ((s.extract 0 1).toList == [59]) with q7 | q7
  · (go_enter Tryz.func141, Tryz.ntmps141; go_wp2; go_ret; refine ⟨ret_int ?_, rfl⟩; rw [unhide K]; simp_all [o2, o1])
  rcases Bool.eq_false_or_eq_true ((s.extract 0 1).toList == [61]) with q8 | q8
  · (go_enter Tryz.func141, Tryz.ntmps141; go_wp2; go_ret; refine ⟨ret_int ?_, rfl⟩; rw [unhide K]; simp_all [o2, o1])
  rcases Bool.eq_false_or_eq_true ((s.extract 0 1).toList == [43]) with q9 | q9
  · (go_enter Tryz.func141, Tryz.ntmps141; go_wp2; go_ret; refine ⟨ret_int ?_, rfl⟩; rw [unhide K]; simp_all [o2, o1])
  rcases Bool.eq_false_or_eq_true ((s.extract 0 1).toList == [45]) with q10 | q10
  · (go_enter Tryz.func141, Tryz.ntmps141; go_wp2; go_ret; refine ⟨ret_int ?_, rfl⟩; rw [unhide K]; simp_all [o2, o1])
  rcases Bool.eq_false_or_eq_true ((s.extract 0 1).toList == [42]) with q11 | q11
  · (go_enter Tryz.func141, Tryz.ntmps141; go_wp2; go_ret; refine ⟨ret_int ?_, rfl⟩; rw [unhide K]; simp_all [o2, o1])
  rcases Bool.eq_false_or_eq_true ((s.extract 0 1).toList == [47]) with q12 | q12
  · (go_enter Tryz.func141, Tryz.ntmps141; go_wp2; go_ret; refine ⟨ret_int ?_, rfl⟩; rw [unhide K]; simp_all [o2, o1])
  rcases Bool.eq_false_or_eq_true ((s.extract 0 1).toList == [37]) with q13 | q13
  · (go_enter Tryz.func141, Tryz.ntmps141; go_wp2; go_ret; refine ⟨ret_int ?_, rfl⟩; rw [unhide K]; simp_all [o2, o1])
  rcases Bool.eq_false_or_eq_true ((s.extract 0 1).toList == [60]) with q14 | q14
  · (go_enter Tryz.func141, Tryz.ntmps141; go_wp2; go_ret; refine ⟨ret_int ?_, rfl⟩; rw [unhide K]; simp_all [o2, o1])
  rcases Bool.eq_false_or_eq_true ((s.extract 0 1).toList == [62]) with q15 | q15
  · (go_enter Tryz.func141, Tryz.ntmps141; go_wp2; go_ret; refine ⟨ret_int ?_, rfl⟩; rw [unhide K]; simp_all [o2, o1])
  rcases Bool.eq_false_or_eq_true ((s.extract 0 1).toList == [33]) with q16 | q16
  · (go_enter Tryz.func141, Tryz.ntmps141; go_wp2; go_ret; refine ⟨ret_int ?_, rfl⟩; rw [unhide K]; simp_all [o2, o1])
  go_enter Tryz.func141, Tryz.ntmps141
  go_wp2
  go_ret
  refine ⟨ret_int ?_, rfl⟩
  rw [unhide K]
  simp_all [o2, o1]

set_option maxHeartbeats 8000000 in
theorem opLen_one (s : ByteArray) (w : World) (h1 : s.size = 1) :
    Calls Tryz.prog 141 #[.string s] w fun e w' => e = .returned (.int .i64 (opL (L s) : Nat)) ∧ w' = w := by
  have K : Hd (opL (L s) = if o2 (s.extract 0 1).toList then 2 else if o1 (s.extract 0 1).toList then 1 else 0) := by
    have e2 : (L s).take 2 = (L s).take 1 := by rw [List.take_of_length_le (by rw [L_len]; omega), List.take_of_length_le (by rw [L_len]; omega)]
    rw [toL, L_extract, List.drop_zero]
    show (if o2 ((L s).take 2) = true then 2 else _) = _
    rw [e2]
  have hq := o2_short s h1
  have p0 : ((s.extract 0 1).toList == [61, 61]) = false := by simp [o2] at hq; simp [hq]
  have p1 : ((s.extract 0 1).toList == [33, 61]) = false := by simp [o2] at hq; simp [hq]
  have p2 : ((s.extract 0 1).toList == [60, 61]) = false := by simp [o2] at hq; simp [hq]
  have p3 : ((s.extract 0 1).toList == [62, 61]) = false := by simp [o2] at hq; simp [hq]
  have p4 : ((s.extract 0 1).toList == [38, 38]) = false := by simp [o2] at hq; simp [hq]
  have p5 : ((s.extract 0 1).toList == [124, 124]) = false := by simp [o2] at hq; simp [hq]
  clear hq
  rcases Bool.eq_false_or_eq_true ((s.extract 0 1).toList == [40]) with q0 | q0
  · (go_enter Tryz.func141, Tryz.ntmps141; go_wp2; go_ret; refine ⟨ret_int ?_, rfl⟩; rw [unhide K]; simp_all [o2, o1])
  rcases Bool.eq_false_or_eq_true ((s.extract 0 1).toList == [41]) with q1 | q1
  · (go_enter Tryz.func141, Tryz.ntmps141; go_wp2; go_ret; refine ⟨ret_int ?_, rfl⟩; rw [unhide K]; simp_all [o2, o1])
  rcases Bool.eq_false_or_eq_true ((s.extract 0 1).toList == [123]) with q2 | q2
  · (go_enter Tryz.func141, Tryz.ntmps141; go_wp2; go_ret; refine ⟨ret_int ?_, rfl⟩; rw [unhide K]; simp_all [o2, o1])
  rcases Bool.eq_false_or_eq_true ((s.extract 0 1).toList == [125]) with q3 | q3
  · (go_enter Tryz.func141, Tryz.ntmps141; go_wp2; go_ret; refine ⟨ret_int ?_, rfl⟩; rw [unhide K]; simp_all [o2, o1])
  rcases Bool.eq_false_or_eq_true ((s.extract 0 1).toList == [91]) with q4 | q4
  · (go_enter Tryz.func141, Tryz.ntmps141; go_wp2; go_ret; refine ⟨ret_int ?_, rfl⟩; rw [unhide K]; simp_all [o2, o1])
  rcases Bool.eq_false_or_eq_true ((s.extract 0 1).toList == [93]) with q5 | q5
  · (go_enter Tryz.func141, Tryz.ntmps141; go_wp2; go_ret; refine ⟨ret_int ?_, rfl⟩; rw [unhide K]; simp_all [o2, o1])
  rcases Bool.eq_false_or_eq_true ((s.extract 0 1).toList == [44]) with q6 | q6
  · (go_enter Tryz.func141, Tryz.ntmps141; go_wp2; go_ret; refine ⟨ret_int ?_, rfl⟩; rw [unhide K]; simp_all [o2, o1])
  rcases Bool.eq_false_or_eq_true ((s.extract 0 1).toList == [59]) with q7 | q7
  · (go_enter Tryz.func141, Tryz.ntmps141; go_wp2; go_ret; refine ⟨ret_int ?_, rfl⟩; rw [unhide K]; simp_all [o2, o1])
  rcases Bool.eq_false_or_eq_true ((s.extract 0 1).toList == [61]) with q8 | q8
  · (go_enter Tryz.func141, Tryz.ntmps141; go_wp2; go_ret; refine ⟨ret_int ?_, rfl⟩; rw [unhide K]; simp_all [o2, o1])
  rcases Bool.eq_false_or_eq_true ((s.extract 0 1).toList == [43]) with q9 | q9
  · (go_enter Tryz.func141, Tryz.ntmps141; go_wp2; go_ret; refine ⟨ret_int ?_, rfl⟩; rw [unhide K]; simp_all [o2, o1])
  rcases Bool.eq_false_or_eq_true ((s.extract 0 1).toList == [45]) with q10 | q10
  · (go_enter Tryz.func141, Tryz.ntmps141; go_wp2; go_ret; refine ⟨ret_int ?_, rfl⟩; rw [unhide K]; simp_all [o2, o1])
  rcases Bool.eq_false_or_eq_true ((s.extract 0 1).toList == [42]) with q11 | q11
  · (go_enter Tryz.func141, Tryz.ntmps141; go_wp2; go_ret; refine ⟨ret_int ?_, rfl⟩; rw [unhide K]; simp_all [o2, o1])
  rcases Bool.eq_false_or_eq_true ((s.extract 0 1).toList == [47]) with q12 | q12
  · (go_enter Tryz.func141, Tryz.ntmps141; go_wp2; go_ret; refine ⟨ret_int ?_, rfl⟩; rw [unhide K]; simp_all [o2, o1])
  rcases Bool.eq_false_or_eq_true ((s.extract 0 1).toList == [37]) with q13 | q13
  · (go_enter Tryz.func141, Tryz.ntmps141; go_wp2; go_ret; refine ⟨ret_int ?_, rfl⟩; rw [unhide K]; simp_all [o2, o1])
  rcases Bool.eq_false_or_eq_true ((s.extract 0 1).toList == [60]) with q14 | q14
  · (go_enter Tryz.func141, Tryz.ntmps141; go_wp2; go_ret; refine ⟨ret_int ?_, rfl⟩; rw [unhide K]; simp_all [o2, o1])
  rcases Bool.eq_false_or_eq_true ((s.extract 0 1).toList == [62]) with q15 | q15
  · (go_enter Tryz.func141, Tryz.ntmps141; go_wp2; go_ret; refine ⟨ret_int ?_, rfl⟩; rw [unhide K]; simp_all [o2, o1])
  rcases Bool.eq_false_or_eq_true ((s.extract 0 1).toList == [33]) with q16 | q16
  · (go_enter Tryz.func141, Tryz.ntmps141; go_wp2; go_ret; refine ⟨ret_int ?_, rfl⟩; rw [unhide K]; simp_all [o2, o1])
  go_enter Tryz.func141, Tryz.ntmps141
  go_wp2
  go_ret
  refine ⟨ret_int ?_, rfl⟩
  rw [unhide K]
  simp_all [o2, o1]

theorem opLen_any (s : ByteArray) (w : World) (h1 : 1 ≤ s.size) (hs : s.size ≤ 140737488355328) :
    Calls Tryz.prog 141 #[.string s] w fun e w' => e = .returned (.int .i64 (opL (L s) : Nat)) ∧ w' = w := by
  by_cases h : s.size = 1
  · exact opLen_one s w h
  · exact opLen_two s w (by omega) hs

/-- The byte that the front of a text between quotes tells, and how many bytes tell it. -/
def sg : List UInt8 → UInt8 × Nat
  | [] => (0, 0)
  | [c] => if c.toNat = 92 then (0, 0) else (c, 1)
  | c :: d :: _ => if c.toNat = 92 then (if d.toNat = 34 ∨ d.toNat = 92 then (d, 2) else if d.toNat = 110 then (10, 2) else (0, 0)) else (c, 1)

theorem ret_un {a b c d : Int} (h : a = c) (k : b = d) : Ending.returned (.tuple #[.int .u8 a, .int .i64 b]) = .returned (.tuple #[.int .u8 c, .int .i64 d]) := by rw [h, k]

set_option maxHeartbeats 2000000 in
theorem sign_any (s : ByteArray) (w : World) (h1 : 1 ≤ s.size) (hs : s.size ≤ 140737488355328) :
    Calls Tryz.prog 140 #[.string s] w fun e w' => e = .returned (.tuple #[.int .u8 (sg (L s)).1.toNat, .int .i64 (sg (L s)).2]) ∧ w' = w := by
  have hL0 := L_drop s 0 (by omega)
  rw [List.drop_zero] at hL0
  by_cases hc : s[0].toNat = 92
  · have n0 : ((s[0].toNat : Int) != 92) = false := by simp; omega
    by_cases h2 : s.size = 1
    · have K : Hd (sg (L s) = (0, 0)) := by
        rw [hL0, L_end s 1 (by omega)]
        show sg [_] = _
        rw [sg, if_pos hc]
      clear hL0 hc
      go_enter Tryz.func140, Tryz.ntmps140
      go_wp2
      go_ret2
      rw [unhide K]
      exact ⟨rfl, rfl⟩
    · have hL1 := L_drop s 1 (by omega)
      have e1 : ((s.size : Int) == 1) = false := by simp; omega
      have hlt : 1 < s.size := by omega
      have K : Hd (sg (L s) = if s[1].toNat = 34 ∨ s[1].toNat = 92 then (s[1], 2) else if s[1].toNat = 110 then (10, 2) else (0, 0)) := by
        rw [hL0, show 0 + 1 = 1 from rfl, hL1]
        show sg (_ :: _ :: _) = _
        rw [sg, if_pos hc]
      clear hL0 hL1 hc
      by_cases d1 : s[1].toNat = 34
      · have b1 : ((s[1].toNat : Int) == 34) = true := by simp; omega
        have D := hide d1
        clear d1
        go_enter Tryz.func140, Tryz.ntmps140
        go_wp2
        go_ret2
        rw [unhide K, if_pos (Or.inl (unhide D))]
        exact ⟨rfl, rfl⟩
      · have b1 : ((s[1].toNat : Int) == 34) = false := by simp; omega
        by_cases d2 : s[1].toNat = 92
        · have b2 : ((s[1].toNat : Int) == 92) = true := by simp; omega
          have D := hide d2
          clear d1 d2
          go_enter Tryz.func140, Tryz.ntmps140
          go_wp2
          go_ret2
          rw [unhide K, if_pos (Or.inr (unhide D))]
          exact ⟨rfl, rfl⟩
        · have b2 : ((s[1].toNat : Int) == 92) = false := by simp; omega
          by_cases d3 : s[1].toNat = 110
          · have b3 : ((s[1].toNat : Int) == 110) = true := by simp; omega
            have K' : Hd (sg (L s) = (10, 2)) := by
              have := unhide K
              rw [if_neg (by omega), if_pos d3] at this
              exact this
            clear d1 d2 d3 K
            go_enter Tryz.func140, Tryz.ntmps140
            go_wp2
            go_ret2
            rw [unhide K']
            exact ⟨rfl, rfl⟩
          · have b3 : ((s[1].toNat : Int) == 110) = false := by simp; omega
            have K' : Hd (sg (L s) = (0, 0)) := by
              have := unhide K
              rw [if_neg (by omega), if_neg d3] at this
              exact this
            clear d1 d2 d3 K
            go_enter Tryz.func140, Tryz.ntmps140
            go_wp2
            go_ret2
            rw [unhide K']
            exact ⟨rfl, rfl⟩
  · have n0 : ((s[0].toNat : Int) != 92) = true := by simp; omega
    have K : Hd (sg (L s) = (s[0], 1)) := by
      rw [hL0]
      cases (L s).drop (0 + 1) with
      | nil => show sg [_] = _; rw [sg, if_neg hc]
      | cons d r => show sg (_ :: _ :: _) = _; rw [sg, if_neg hc]
    clear hL0 hc
    go_enter Tryz.func140, Tryz.ntmps140
    go_wp2
    go_ret2
    rw [unhide K]
    exact ⟨rfl, rfl⟩

end Go.Proofs.YtbcflcnkhhkogaaGreatDoor

namespace Go.Proofs.YtbcflcnkhhkogaaGreatDoor
open Go.RowKit

/-- Memory was made, nothing that stood there has turned. -/
def Ext (w w' : World) : Prop := Below w.heap.size w w'

theorem Ext.refl (w : World) : Ext w w := Below.refl _ _
theorem Ext.trans {a b c : World} (h : Ext a b) (k : Ext b c) : Ext a c := Below.trans h (Below.mono k h.size)
theorem Ext.alloc (w : World) (o : Obj) : Ext w (w.alloc o) := Below.alloc (Below.refl _ _) (Nat.le_refl _) o
theorem Ext.drew {a w : World} (h : Ext a w) : Ext a w.drew := Below.drew h
theorem Ext.le {w w' : World} (h : Ext w w') : w.heap.size ≤ w'.heap.size := h.size
theorem Ext.cell {w w' : World} (h : Ext w w') {a : Addr} {v : Value} (hc : w.cell? a = some v) : w'.cell? a = some v := by
  rw [Below.cell h (World.block_lt_of_cell? w a hc)]; exact hc
theorem Ext.row {w w' : World} (h : Ext w w') {b : Nat} {x : Obj} (hc : w.heap[b]? = some x) : w'.heap[b]? = some x :=
  (h.block b (Array.getElem?_eq_some_iff.1 hc).1).trans hc
theorem Ext.set {a w : World} (h : Ext a w) {p : Addr} (hp : a.heap.size ≤ p.block) (v : Value) : Ext a (w.setCell p v) := Below.setCell h hp v

/-- The four cells of a word's variable. -/
abbrev tokV (k : Int) (t : ByteArray) (n : Int) (o : Int) : Value := .agg #[.int .i64 k, .string t, .int .i64 n, .int .i64 o]
abbrev tokR (k : Int) (t : ByteArray) (n : Int) (o : Int) : Obj := .cells #[.int .i64 k, .string t, .int .i64 n, .int .i64 o] 110 (0, 0)

/-- A variable's four cells, as they stand in every later world. -/
structure Four (w : World) (g : Nat) (k : Int) (t : ByteArray) (n o : Int) : Prop where
  c0 : w.cell? ⟨g, 0, none⟩ = some (.int .i64 k)
  c1 : w.cell? ⟨g, 1, none⟩ = some (.string t)
  c2 : w.cell? ⟨g, 2, none⟩ = some (.int .i64 n)
  c3 : w.cell? ⟨g, 3, none⟩ = some (.int .i64 o)
  fz : ∀ i, w.frozen? ⟨g, i, none⟩ = false

theorem cell_box (w : World) (cs : Array Value) (t : TypeId) (i : Nat) {v : Value} (hi : cs[i]? = some v) : (w.alloc (.cells cs t)).cell? ⟨w.heap.size, i, none⟩ = some v := by
  rw [cell_of_row _ _ i cs t (0, 0) (Go.heap_alloc_new w _)]
  exact hi

theorem Four.new (w : World) (ty : TypeId) (k : Int) (t : ByteArray) (n o : Int) : Four (w.alloc (.cells #[.int .i64 k, .string t, .int .i64 n, .int .i64 o] ty)) w.heap.size k t n o :=
  ⟨cell_box w _ ty 0 rfl, cell_box w _ ty 1 rfl, cell_box w _ ty 2 rfl, cell_box w _ ty 3 rfl, fun i => frozen_of_row _ _ i _ ty (Go.heap_alloc_new w _)⟩

theorem Four.on {w w' : World} {g : Nat} {k : Int} {t : ByteArray} {n o : Int} (h : Four w g k t n o) (e : Ext w w') : Four w' g k t n o :=
  ⟨e.cell h.c0, e.cell h.c1, e.cell h.c2, e.cell h.c3, fun i => (Below.frozen e (p := ⟨g, i, none⟩) (World.block_lt_of_cell? w ⟨g, 0, none⟩ h.c0)).trans (h.fz i)⟩

/-- The four cells of a variable, stored anew. -/
abbrev set4 (w : World) (g : Nat) (k : Int) (t : ByteArray) (n o : Int) : World :=
  (((w.setCell ⟨g, 0, none⟩ (.int .i64 k)).setCell ⟨g, 1, none⟩ (.string t)).setCell ⟨g, 2, none⟩ (.int .i64 n)).setCell ⟨g, 3, none⟩ (.int .i64 o)

theorem set4_ext {w w' : World} (h : Ext w w') (g : Nat) (hg : w.heap.size ≤ g) (k : Int) (t : ByteArray) (n o : Int) : Ext w (set4 w' g k t n o) :=
  (((h.set hg _).set hg _).set hg _).set hg _

theorem none_any (w : World) :
    Calls Tryz.prog 137 #[] w fun e w' => e = .returned (.tuple #[tokV 0 ⟨#[]⟩ 0 0, .int .i64 0, .bool false]) ∧ Ext w w' := by
  go_enter Tryz.func137, Tryz.ntmps137
  go_wp2
  exact bodyPost_ret (v := .tuple #[tokV 0 ⟨#[]⟩ 0 0, .int .i64 0, .bool false]) (by simp [results, Tryz.results137, go_sem]) rfl ⟨rfl, Ext.alloc _ _⟩

theorem clone_any (s : ByteArray) (w : World) (hs : s.size ≤ 140737488355328) :
    Calls Tryz.prog 162 #[.string s] w fun e w' => e = .returned (.string s) ∧ Ext w w' := by
  go_enter Tryz.func162, Tryz.ntmps162
  go_wp2_with (go_at_call 178; refine (Tryz.stringslite_Clone _ _ (by omega)).mono ?_; rintro e w' ⟨rfl, hw⟩; have H := hide hw; clear hw)
  go_ret
  exact ⟨rfl, unhide H⟩

theorem found_any (k : Int) (s : ByteArray) (o e : Nat) (w : World) (h1 : o ≤ e) (h2 : e ≤ s.size) (hs : s.size ≤ 140737488355328) :
    Calls Tryz.prog 139 #[.int .i64 k, .string s, .int .i64 o, .int .i64 e] w fun r w' => r = .returned (.tuple #[tokV k (s.extract o e) 0 o, .int .i64 e, .bool true]) ∧ Ext w w' := by
  have hx : (s.extract o e).size ≤ 140737488355328 := by rw [ByteArray.size_extract]; omega
  have X := hide hx
  clear hx
  go_enter Tryz.func139, Tryz.ntmps139
  go_wp2_with (go_at_call 162; refine (clone_any _ _ (unhide X)).mono ?_; rintro e w1 ⟨rfl, hw⟩; have f4 := (Four.new _ _ _ _ _ _).on hw; have z0 := f4.c0; have z1 := f4.c1; have z2 := f4.c2; have z3 := f4.c3; have zf := f4.fz; have H := hide ((Ext.alloc _ _).trans hw); clear hw f4)
  exact bodyPost_ret (v := .tuple #[tokV k (s.extract o e) 0 o, .int .i64 e, .bool true]) (by simp [results, Tryz.results139, go_sem, z0, z1, z2, z3]) rfl ⟨rfl, set4_ext (unhide H) _ (Nat.le_refl _) _ _ _ _⟩

/-- A call of one of the lexer's readers: it tells a word, or that there is none; memory is made alone. -/
def Tells (f : FuncId) (s : ByteArray) (o : Nat) (w : World) (r : Option (Int × ByteArray × Int × Nat)) : Prop :=
  Calls Tryz.prog f #[.string s, .int .i64 o] w fun e w' => e = .returned (match r with | some (k, t, n, m) => .tuple #[tokV k t n o, .int .i64 m, .bool true] | none => .tuple #[tokV 0 ⟨#[]⟩ 0 0, .int .i64 0, .bool false]) ∧ Ext w w'

/-- The name or word that stands at a place. -/
def nameT (s : ByteArray) (o : Nat) : Option (Int × ByteArray × Int × Nat) :=
  if 16 < run nm ((L s).drop o) then none else some (if wordL (((L s).drop o).take (run nm ((L s).drop o))) then 2 else 1, s.extract o (o + run nm ((L s).drop o)), 0, o + run nm ((L s).drop o))

set_option maxHeartbeats 1000000 in
theorem name_any (s : ByteArray) (o : Nat) (w : World) (ho : o ≤ s.size) (hs : s.size ≤ 140737488355328) : Tells 113 s o w (nameT s o) := by
  unfold Tells nameT
  have hle : run nm ((L s).drop o) ≤ s.size - o := by
    have := run_le nm ((L s).drop o)
    rw [List.length_drop, L_len] at this
    exact this
  have HW : Hd (wordL (L (s.extract o (o + run nm ((L s).drop o)))) = wordL (((L s).drop o).take (run nm ((L s).drop o)))) := by
    rw [L_extract, Nat.add_sub_cancel_left]; exact rfl
  have HP := hide (fun W => past_name s o W ho hs)
  generalize run nm ((L s).drop o) = j at hle HP HW
  by_cases hj : 16 < j
  · rw [if_pos hj]
    clear HW
    go_enter Tryz.func113, Tryz.ntmps113
    go_wp2_with (first
      | (go_at_call 108; refine Calls.mono (unhide HP _) ?_; rintro e w1 ⟨rfl, rfl⟩)
      | (go_at_call 137; refine Calls.mono (none_any _) ?_; rintro e w1 ⟨rfl, hw⟩; have f4 := (Four.new _ _ _ _ _ _).on hw; have z0 := f4.c0; have z1 := f4.c1; have z2 := f4.c2; have z3 := f4.c3; have zf := f4.fz; have H := hide ((Ext.alloc _ _).trans hw); clear hw f4))
    exact bodyPost_ret (v := .tuple #[tokV 0 ⟨#[]⟩ 0 0, .int .i64 0, .bool false]) (by simp [results, Tryz.results113, go_sem, z0, z1, z2, z3]) rfl ⟨rfl, set4_ext (unhide H) _ (Nat.le_refl _) _ _ _ _⟩
  · rw [if_neg hj]
    have HF := hide (fun k W => found_any k s o (o + j) W (by omega) (by omega) hs)
    cases hword : wordL (((L s).drop o).take j)
    all_goals
      rw [hword] at HW
      have HI := hide (fun W => (unhide HW) ▸ isWord_any (s.extract o (o + j)) W)
      clear HW hword
      go_enter Tryz.func113, Tryz.ntmps113
      go_wp2_with (first
        | (go_at_call 108; refine Calls.mono (unhide HP _) ?_; rintro e w1 ⟨rfl, rfl⟩)
        | (go_at_call 138; refine Calls.mono (unhide HI _) ?_; rintro e w1 ⟨rfl, rfl⟩)
        | (go_at_call 139; refine Calls.mono (unhide HF _ _) ?_; rintro e w1 ⟨rfl, hw⟩; have f4 := (Four.new _ _ _ _ _ _).on hw; have z0 := f4.c0; have z1 := f4.c1; have z2 := f4.c2; have z3 := f4.c3; have zf := f4.fz; have H := hide ((Ext.alloc _ _).trans hw); clear hw f4))
      first
        | exact bodyPost_ret (v := .tuple #[tokV 2 (s.extract o (o + j)) 0 o, .int .i64 (o + j), .bool true]) (by simp [results, Tryz.results113, go_sem, z0, z1, z2, z3]) rfl ⟨rfl, set4_ext (unhide H) _ (Nat.le_refl _) _ _ _ _⟩
        | exact bodyPost_ret (v := .tuple #[tokV 1 (s.extract o (o + j)) 0 o, .int .i64 (o + j), .bool true]) (by simp [results, Tryz.results113, go_sem, z0, z1, z2, z3]) rfl ⟨rfl, set4_ext (unhide H) _ (Nat.le_refl _) _ _ _ _⟩

/-- The op that stands at a place. -/
def opT (s : ByteArray) (o : Nat) : Option (Int × ByteArray × Int × Nat) :=
  if opL ((L s).drop o) = 0 then none else some (6, s.extract o (o + opL ((L s).drop o)), 0, o + opL ((L s).drop o))

theorem opL_le (l : List UInt8) : opL l ≤ l.length := by
  have h2 : ∀ t : List UInt8, o2 t = true → t.length = 2 := by
    intro t h
    simp only [o2, Bool.or_eq_true, beq_iff_eq] at h
    rcases h with ((((h | h) | h) | h) | h) | h <;> rw [h] <;> rfl
  have h1 : ∀ t : List UInt8, o1 t = true → t.length = 1 := by
    intro t h
    simp only [o1, Bool.or_eq_true, beq_iff_eq] at h
    rcases h with (((((((((((((((h | h) | h) | h) | h) | h) | h) | h) | h) | h) | h) | h) | h) | h) | h) | h) | h <;> rw [h] <;> rfl
  unfold opL
  split
  · rename_i h
    have := h2 _ h
    rw [List.length_take] at this
    omega
  · split
    · rename_i h
      have := h1 _ h
      rw [List.length_take] at this
      omega
    · exact Nat.zero_le _

theorem tail_size (s : ByteArray) (o : Nat) : (s.extract o s.size).size = s.size - o := by rw [ByteArray.size_extract, Nat.min_self]
theorem tail_L (s : ByteArray) (o : Nat) : L (s.extract o s.size) = (L s).drop o := by
  rw [L_extract]; exact List.take_of_length_le (by rw [List.length_drop, L_len]; exact Nat.le_refl _)

set_option maxHeartbeats 1000000 in
theorem op_any (s : ByteArray) (o : Nat) (w : World) (ho : o < s.size) (hs : s.size ≤ 140737488355328) : Tells 115 s o w (opT s o) := by
  unfold Tells opT
  have hle : opL ((L s).drop o) ≤ s.size - o := by
    have := opL_le ((L s).drop o)
    rw [List.length_drop, L_len] at this
    exact this
  have HP := hide (fun W => opLen_any (s.extract o s.size) W (by rw [tail_size s o]; omega) (by rw [tail_size s o]; omega))
  rw [tail_L] at HP
  generalize opL ((L s).drop o) = j at hle HP
  by_cases hj : j = 0
  · subst hj
    rw [if_pos rfl]
    go_enter Tryz.func115, Tryz.ntmps115
    go_wp2_with (first
      | (go_at_call 141; refine Calls.mono (unhide HP _) ?_; rintro e w1 ⟨rfl, rfl⟩)
      | (go_at_call 137; refine Calls.mono (none_any _) ?_; rintro e w1 ⟨rfl, hw⟩; have f4 := (Four.new _ _ _ _ _ _).on hw; have z0 := f4.c0; have z1 := f4.c1; have z2 := f4.c2; have z3 := f4.c3; have zf := f4.fz; have H := hide ((Ext.alloc _ _).trans hw); clear hw f4))
    exact bodyPost_ret (v := .tuple #[tokV 0 ⟨#[]⟩ 0 0, .int .i64 0, .bool false]) (by simp [results, Tryz.results115, go_sem, z0, z1, z2, z3]) rfl ⟨rfl, set4_ext (unhide H) _ (Nat.le_refl _) _ _ _ _⟩
  · rw [if_neg hj]
    have hj' : ((j : Int) == 0) = false := by simp; omega
    have HF := hide (fun k W => found_any k s o (o + j) W (by omega) (by omega) hs)
    go_enter Tryz.func115, Tryz.ntmps115
    go_wp2_with (first
      | (go_at_call 141; refine Calls.mono (unhide HP _) ?_; rintro e w1 ⟨rfl, rfl⟩)
      | (go_at_call 139; refine Calls.mono (unhide HF _ _) ?_; rintro e w1 ⟨rfl, hw⟩; have f4 := (Four.new _ _ _ _ _ _).on hw; have z0 := f4.c0; have z1 := f4.c1; have z2 := f4.c2; have z3 := f4.c3; have zf := f4.fz; have H := hide ((Ext.alloc _ _).trans hw); clear hw f4))
    exact bodyPost_ret (v := .tuple #[tokV 6 (s.extract o (o + j)) 0 o, .int .i64 (o + j), .bool true]) (by simp [results, Tryz.results115, go_sem, z0, z1, z2, z3]) rfl ⟨rfl, set4_ext (unhide H) _ (Nat.le_refl _) _ _ _ _⟩

end Go.Proofs.YtbcflcnkhhkogaaGreatDoor

namespace Go.Proofs.YtbcflcnkhhkogaaGreatDoor
open Go.RowKit

/-- The variable ErrRange holds an error. -/
def Er (w : World) : Prop := ∃ (te : TypeId) (pe : Value), w.cell? ⟨5, 0, none⟩ = some (.iface te pe)
theorem Er.on {w w' : World} (h : Er w) (e : Ext w w') : Er w' := by
  obtain ⟨te, pe, hc⟩ := h
  exact ⟨te, pe, e.cell hc⟩

theorem ext_parse {w w' : World} {e : TypeId} (h : w' = w ∨ ∃ t, w' = Lib.bytesWorld w e t) : Ext w w' := by
  rcases h with rfl | ⟨t, rfl⟩
  · exact Ext.refl _
  · exact Lib.bytesWorld_below _ _ _

/-- The number that stands at a place: how many digits, what they spell, whether an i stands behind them. -/
def nd (s : ByteArray) (o : Nat) : Nat := run dg ((L s).drop o)
def nv (s : ByteArray) (o : Nat) : Nat := dv 0 (((L s).drop o).take (nd s o))
def isI (s : ByteArray) (k : Nat) : Bool := (L s)[k]? == some 105
def nmAt (s : ByteArray) (k : Nat) : Bool := ((L s)[k]?.map nm).getD false
def numT (s : ByteArray) (o : Nat) : Option (Int × ByteArray × Int × Nat) :=
  if 9223372036854775807 < nv s o then none
  else if isI s (o + nd s o) then (if nmAt s (o + nd s o + 1) then none else some (4, ⟨#[]⟩, nv s o, o + nd s o + 1))
  else (if nmAt s (o + nd s o) then none else some (3, ⟨#[]⟩, nv s o, o + nd s o))

theorem isI_end (s : ByteArray) (k : Nat) (h : s.size ≤ k) : isI s k = false := by
  unfold isI; rw [List.getElem?_eq_none (by rw [L_len]; exact h)]; rfl
theorem nmAt_end (s : ByteArray) (k : Nat) (h : s.size ≤ k) : nmAt s k = false := by
  unfold nmAt; rw [List.getElem?_eq_none (by rw [L_len]; exact h)]; rfl
theorem nmAt_at (s : ByteArray) (k : Nat) (h : k < s.size) : nmAt s k = nm s[k] := by
  unfold nmAt; rw [L_get s k h]; rfl
theorem isI_at (s : ByteArray) (k : Nat) (h : k < s.size) : isI s k = ((s[k].toNat : Int) == 105) := by
  unfold isI
  rw [L_get s k h, Bool.eq_iff_iff]
  simp only [beq_iff_eq, Option.some.injEq]
  refine ⟨fun e => by rw [e]; rfl, fun e => ?_⟩
  apply UInt8.toNat.inj
  show _ = 105
  omega

theorem nd_le (s : ByteArray) (o : Nat) : nd s o ≤ s.size - o := by
  have := run_le dg ((L s).drop o)
  rw [List.length_drop, L_len] at this
  exact this

theorem num_digits (s : ByteArray) (o : Nat) (ho : o < s.size) (hd : dg s[o] = true) : 1 ≤ nd s o ∧
    Lib.parseIntB 64 (s.extract o (o + nd s o)).data.toList = if nv s o ≤ 9223372036854775807 then .ok (nv s o : Int) else .range := by
  have h1 : 1 ≤ nd s o := by unfold nd; rw [L_drop s o ho]; exact run_pos hd
  refine ⟨h1, ?_⟩
  show Lib.parseIntB 64 (L (s.extract o (o + nd s o))) = _
  rw [L_extract, Nat.add_sub_cancel_left]
  refine parse_digits _ ?_ (run_take _)
  intro h
  have hl := congrArg List.length h
  rw [List.length_take, List.length_drop, L_len] at hl
  simp at hl
  omega

set_option maxHeartbeats 1000000 in
theorem number_range (s : ByteArray) (o : Nat) (w : World) (ho : o < s.size) (hs : s.size ≤ 140737488355328) (hd : dg s[o] = true) (he : Er w) (hr : 9223372036854775807 < nv s o) : Tells 111 s o w none := by
  unfold Tells
  obtain ⟨h1, hp⟩ := num_digits s o ho hd
  rw [if_neg (by omega)] at hp
  obtain ⟨te, pe, hc⟩ := he
  have hle := nd_le s o
  have HP := hide (fun W => past_digit s o W (by omega) hs)
  have HE : Hd (∀ W, run dg ((L s).drop o) = nd s o ∧ (Ext w W → W.cell? ⟨5, 0, none⟩ = some (.iface te pe))) := fun W => ⟨rfl, fun e => e.cell hc⟩
  have HQ := hide (fun W e => Tryz.strconv_ParseInt_10_at64_range (s.extract o (o + nd s o)) (by rw [ByteArray.size_extract]; omega) hp (.iface te pe) W ((unhide HE W).2 e) (Or.inr ⟨te, pe, rfl⟩))
  have HP : Hd (∀ W, Calls Tryz.prog 108 #[.string s, .int .i64 o, fnV 110] W fun e w' => e = .returned (.int .i64 ((o + nd s o : Nat) : Int)) ∧ w' = W) := unhide HP
  clear HE hp hr hc hd
  generalize nd s o = j at h1 hle HP HQ
  go_enter Tryz.func111, Tryz.ntmps111
  go_wp2_with (first
    | (go_at_call 108; refine Calls.mono (unhide HP _) ?_; rintro e w1 ⟨rfl, rfl⟩)
    | (go_at_call 136; refine Calls.mono (unhide HQ _ (Ext.alloc _ _)) ?_; rintro e w1 ⟨N, rfl, -, -, hw⟩; have F1 := hide ((Four.new _ _ _ _ _ _).on hw); have H1 := hide ((Ext.alloc _ _).trans hw); clear hw)
    | (go_at_call 137; refine Calls.mono (none_any _) ?_; rintro e w2 ⟨rfl, hw⟩; have f4 := (unhide F1).on hw; have z0 := f4.c0; have z1 := f4.c1; have z2 := f4.c2; have z3 := f4.c3; have zf := f4.fz; have H := hide ((unhide H1).trans hw); clear hw f4))
  exact bodyPost_ret (v := .tuple #[tokV 0 ⟨#[]⟩ 0 0, .int .i64 0, .bool false]) (by simp [results, Tryz.results111, go_sem, z0, z1, z2, z3]) rfl ⟨rfl, set4_ext (unhide H) _ (Nat.le_refl _) _ _ _ _⟩

set_option maxHeartbeats 2000000 in
theorem number_end (s : ByteArray) (o j : Nat) (v : Int) (w : World) (hs : s.size ≤ 140737488355328) (hle : j ≤ s.size - o) (ho : o < s.size)
    (HP : Hd (∀ W, Calls Tryz.prog 108 #[.string s, .int .i64 o, fnV 110] W fun e w' => e = .returned (.int .i64 ((o + j : Nat) : Int)) ∧ w' = W))
    (HQ : Hd (∀ W, Calls Tryz.prog 136 #[.string (s.extract o (o + j)), .int .i64 10, .int .i64 64] W fun e w' => e = .returned (.tuple #[.int .i64 v, .nilIface]) ∧ (w' = W ∨ ∃ t, w' = Lib.bytesWorld W 5 t)))
    (hj : s.size ≤ o + j) : Tells 111 s o w (some (3, ⟨#[]⟩, v, o + j)) := by
  unfold Tells
  have e1 : decide ((o : Int) + j < s.size) = false := decide_eq_false (by omega)
  go_enter Tryz.func111, Tryz.ntmps111
  go_wp2_with (first
    | (go_at_call 108; refine Calls.mono (unhide HP _) ?_; rintro e w1 ⟨rfl, rfl⟩)
    | (go_at_call 136; refine Calls.mono (unhide HQ _) ?_; rintro e w1 ⟨rfl, hw1⟩; have hw := ext_parse hw1; have f4 := (Four.new _ _ _ _ _ _).on hw; have z0 := f4.c0; have z1 := f4.c1; have z2 := f4.c2; have z3 := f4.c3; have zf := f4.fz; have hz : w.heap.size < w1.heap.size := World.block_lt_of_cell? w1 ⟨w.heap.size, 0, none⟩ f4.c0; have F1 := hide f4; have H := hide ((Ext.alloc _ _).trans hw); clear hw hw1 f4))
  exact bodyPost_ret (v := .tuple #[tokV 3 ⟨#[]⟩ v o, .int .i64 (o + j), .bool true]) (by simp [results, Tryz.results111, go_sem, z0, z1, z2, z3, hz, Nat.ne_of_lt hz]) rfl ⟨rfl, (set4_ext (unhide H) _ (Nat.le_refl _) _ _ _ _).trans (Ext.alloc _ _)⟩

set_option maxHeartbeats 2000000 in
theorem number_plain_no (s : ByteArray) (o j : Nat) (v : Int) (w : World) (hs : s.size ≤ 140737488355328) (hle : j ≤ s.size - o) (ho : o < s.size)
    (HP : Hd (∀ W, Calls Tryz.prog 108 #[.string s, .int .i64 o, fnV 110] W fun e w' => e = .returned (.int .i64 ((o + j : Nat) : Int)) ∧ w' = W))
    (HQ : Hd (∀ W, Calls Tryz.prog 136 #[.string (s.extract o (o + j)), .int .i64 10, .int .i64 64] W fun e w' => e = .returned (.tuple #[.int .i64 v, .nilIface]) ∧ (w' = W ∨ ∃ t, w' = Lib.bytesWorld W 5 t)))
    (hj : o + j < s.size) (hi : ((s[o + j].toNat : Int) == 105) = false) (hn : nm s[o + j] = true) : Tells 111 s o w (none) := by
  unfold Tells
  go_enter Tryz.func111, Tryz.ntmps111
  go_wp2_with (first
    | (go_at_call 108; refine Calls.mono (unhide HP _) ?_; rintro e w1 ⟨rfl, rfl⟩)
    | (go_at_call 136; refine Calls.mono (unhide HQ _) ?_; rintro e w1 ⟨rfl, hw1⟩; have hw := ext_parse hw1; have f4 := (Four.new _ _ _ _ _ _).on hw; have z0 := f4.c0; have z1 := f4.c1; have z2 := f4.c2; have z3 := f4.c3; have zf := f4.fz; have hz : w.heap.size < w1.heap.size := World.block_lt_of_cell? w1 ⟨w.heap.size, 0, none⟩ f4.c0; have F1 := hide f4; have H := hide ((Ext.alloc _ _).trans hw); clear hw hw1 f4)
    | (go_at_call 112; refine Calls.mono (inName_any _ _) ?_; rintro e w2 ⟨rfl, rfl⟩)
    | (go_at_call 137; refine Calls.mono (none_any _) ?_; rintro e w2 ⟨rfl, hw⟩; have f4 := (unhide F1).on (((Ext.alloc _ _)).trans hw); clear z0 z1 z2 z3 zf; have z0 := f4.c0; have z1 := f4.c1; have z2 := f4.c2; have z3 := f4.c3; have zf := f4.fz; have H2 := hide ((unhide H).trans (((Ext.alloc _ _)).trans hw)); clear hw f4))
  exact bodyPost_ret (v := .tuple #[tokV 0 ⟨#[]⟩ 0 0, .int .i64 0, .bool false]) (by simp [results, Tryz.results111, go_sem, z0, z1, z2, z3]) rfl ⟨rfl, set4_ext (unhide H2) _ (Nat.le_refl _) _ _ _ _⟩

set_option maxHeartbeats 2000000 in
theorem number_plain_yes (s : ByteArray) (o j : Nat) (v : Int) (w : World) (hs : s.size ≤ 140737488355328) (hle : j ≤ s.size - o) (ho : o < s.size)
    (HP : Hd (∀ W, Calls Tryz.prog 108 #[.string s, .int .i64 o, fnV 110] W fun e w' => e = .returned (.int .i64 ((o + j : Nat) : Int)) ∧ w' = W))
    (HQ : Hd (∀ W, Calls Tryz.prog 136 #[.string (s.extract o (o + j)), .int .i64 10, .int .i64 64] W fun e w' => e = .returned (.tuple #[.int .i64 v, .nilIface]) ∧ (w' = W ∨ ∃ t, w' = Lib.bytesWorld W 5 t)))
    (hj : o + j < s.size) (hi : ((s[o + j].toNat : Int) == 105) = false) (hn : nm s[o + j] = false) : Tells 111 s o w (some (3, ⟨#[]⟩, v, o + j)) := by
  unfold Tells
  go_enter Tryz.func111, Tryz.ntmps111
  go_wp2_with (first
    | (go_at_call 108; refine Calls.mono (unhide HP _) ?_; rintro e w1 ⟨rfl, rfl⟩)
    | (go_at_call 136; refine Calls.mono (unhide HQ _) ?_; rintro e w1 ⟨rfl, hw1⟩; have hw := ext_parse hw1; have f4 := (Four.new _ _ _ _ _ _).on hw; have z0 := f4.c0; have z1 := f4.c1; have z2 := f4.c2; have z3 := f4.c3; have zf := f4.fz; have hz : w.heap.size < w1.heap.size := World.block_lt_of_cell? w1 ⟨w.heap.size, 0, none⟩ f4.c0; have F1 := hide f4; have H := hide ((Ext.alloc _ _).trans hw); clear hw hw1 f4)
    | (go_at_call 112; refine Calls.mono (inName_any _ _) ?_; rintro e w2 ⟨rfl, rfl⟩))
  exact bodyPost_ret (v := .tuple #[tokV 3 ⟨#[]⟩ v o, .int .i64 (o + j), .bool true]) (by simp [results, Tryz.results111, go_sem, z0, z1, z2, z3, hz, Nat.ne_of_lt hz]) rfl ⟨rfl, (set4_ext (unhide H) _ (Nat.le_refl _) _ _ _ _).trans (Ext.alloc _ _)⟩

set_option maxHeartbeats 2000000 in
theorem number_imag_end (s : ByteArray) (o j : Nat) (v : Int) (w : World) (hs : s.size ≤ 140737488355328) (hle : j ≤ s.size - o) (ho : o < s.size)
    (HP : Hd (∀ W, Calls Tryz.prog 108 #[.string s, .int .i64 o, fnV 110] W fun e w' => e = .returned (.int .i64 ((o + j : Nat) : Int)) ∧ w' = W))
    (HQ : Hd (∀ W, Calls Tryz.prog 136 #[.string (s.extract o (o + j)), .int .i64 10, .int .i64 64] W fun e w' => e = .returned (.tuple #[.int .i64 v, .nilIface]) ∧ (w' = W ∨ ∃ t, w' = Lib.bytesWorld W 5 t)))
    (hj : o + j < s.size) (hi : ((s[o + j].toNat : Int) == 105) = true) (hk : s.size ≤ o + j + 1) : Tells 111 s o w (some (4, ⟨#[]⟩, v, o + j + 1)) := by
  unfold Tells
  have e1 : decide ((o : Int) + j + 1 < s.size) = false := decide_eq_false (by omega)
  go_enter Tryz.func111, Tryz.ntmps111
  go_wp2_with (first
    | (go_at_call 108; refine Calls.mono (unhide HP _) ?_; rintro e w1 ⟨rfl, rfl⟩)
    | (go_at_call 136; refine Calls.mono (unhide HQ _) ?_; rintro e w1 ⟨rfl, hw1⟩; have hw := ext_parse hw1; have f4 := (Four.new _ _ _ _ _ _).on hw; have z0 := f4.c0; have z1 := f4.c1; have z2 := f4.c2; have z3 := f4.c3; have zf := f4.fz; have hz : w.heap.size < w1.heap.size := World.block_lt_of_cell? w1 ⟨w.heap.size, 0, none⟩ f4.c0; have F1 := hide f4; have H := hide ((Ext.alloc _ _).trans hw); clear hw hw1 f4))
  exact bodyPost_ret (v := .tuple #[tokV 4 ⟨#[]⟩ v o, .int .i64 (o + j + 1), .bool true]) (by simp [results, Tryz.results111, go_sem, z0, z1, z2, z3, hz, Nat.ne_of_lt hz]) rfl ⟨rfl, (set4_ext (unhide H) _ (Nat.le_refl _) _ _ _ _).trans (Ext.alloc _ _)⟩

set_option maxHeartbeats 2000000 in
theorem number_imag_no (s : ByteArray) (o j : Nat) (v : Int) (w : World) (hs : s.size ≤ 140737488355328) (hle : j ≤ s.size - o) (ho : o < s.size)
    (HP : Hd (∀ W, Calls Tryz.prog 108 #[.string s, .int .i64 o, fnV 110] W fun e w' => e = .returned (.int .i64 ((o + j : Nat) : Int)) ∧ w' = W))
    (HQ : Hd (∀ W, Calls Tryz.prog 136 #[.string (s.extract o (o + j)), .int .i64 10, .int .i64 64] W fun e w' => e = .returned (.tuple #[.int .i64 v, .nilIface]) ∧ (w' = W ∨ ∃ t, w' = Lib.bytesWorld W 5 t)))
    (hj : o + j < s.size) (hi : ((s[o + j].toNat : Int) == 105) = true) (hk : o + j + 1 < s.size) (hn : nm s[o + j + 1] = true) : Tells 111 s o w (none) := by
  unfold Tells
  go_enter Tryz.func111, Tryz.ntmps111
  go_wp2_with (first
    | (go_at_call 108; refine Calls.mono (unhide HP _) ?_; rintro e w1 ⟨rfl, rfl⟩)
    | (go_at_call 136; refine Calls.mono (unhide HQ _) ?_; rintro e w1 ⟨rfl, hw1⟩; have hw := ext_parse hw1; have f4 := (Four.new _ _ _ _ _ _).on hw; have z0 := f4.c0; have z1 := f4.c1; have z2 := f4.c2; have z3 := f4.c3; have zf := f4.fz; have hz : w.heap.size < w1.heap.size := World.block_lt_of_cell? w1 ⟨w.heap.size, 0, none⟩ f4.c0; have F1 := hide f4; have H := hide ((Ext.alloc _ _).trans hw); clear hw hw1 f4)
    | (go_at_call 112; refine Calls.mono (inName_any _ _) ?_; rintro e w2 ⟨rfl, rfl⟩)
    | (go_at_call 137; refine Calls.mono (none_any _) ?_; rintro e w2 ⟨rfl, hw⟩; have f4 := (unhide F1).on (((Ext.alloc _ _)).trans hw); clear z0 z1 z2 z3 zf; have z0 := f4.c0; have z1 := f4.c1; have z2 := f4.c2; have z3 := f4.c3; have zf := f4.fz; have H2 := hide ((unhide H).trans (((Ext.alloc _ _)).trans hw)); clear hw f4))
  exact bodyPost_ret (v := .tuple #[tokV 0 ⟨#[]⟩ 0 0, .int .i64 0, .bool false]) (by simp [results, Tryz.results111, go_sem, z0, z1, z2, z3]) rfl ⟨rfl, set4_ext (unhide H2) _ (Nat.le_refl _) _ _ _ _⟩

set_option maxHeartbeats 2000000 in
theorem number_imag_yes (s : ByteArray) (o j : Nat) (v : Int) (w : World) (hs : s.size ≤ 140737488355328) (hle : j ≤ s.size - o) (ho : o < s.size)
    (HP : Hd (∀ W, Calls Tryz.prog 108 #[.string s, .int .i64 o, fnV 110] W fun e w' => e = .returned (.int .i64 ((o + j : Nat) : Int)) ∧ w' = W))
    (HQ : Hd (∀ W, Calls Tryz.prog 136 #[.string (s.extract o (o + j)), .int .i64 10, .int .i64 64] W fun e w' => e = .returned (.tuple #[.int .i64 v, .nilIface]) ∧ (w' = W ∨ ∃ t, w' = Lib.bytesWorld W 5 t)))
    (hj : o + j < s.size) (hi : ((s[o + j].toNat : Int) == 105) = true) (hk : o + j + 1 < s.size) (hn : nm s[o + j + 1] = false) : Tells 111 s o w (some (4, ⟨#[]⟩, v, o + j + 1)) := by
  unfold Tells
  go_enter Tryz.func111, Tryz.ntmps111
  go_wp2_with (first
    | (go_at_call 108; refine Calls.mono (unhide HP _) ?_; rintro e w1 ⟨rfl, rfl⟩)
    | (go_at_call 136; refine Calls.mono (unhide HQ _) ?_; rintro e w1 ⟨rfl, hw1⟩; have hw := ext_parse hw1; have f4 := (Four.new _ _ _ _ _ _).on hw; have z0 := f4.c0; have z1 := f4.c1; have z2 := f4.c2; have z3 := f4.c3; have zf := f4.fz; have hz : w.heap.size < w1.heap.size := World.block_lt_of_cell? w1 ⟨w.heap.size, 0, none⟩ f4.c0; have F1 := hide f4; have H := hide ((Ext.alloc _ _).trans hw); clear hw hw1 f4)
    | (go_at_call 112; refine Calls.mono (inName_any _ _) ?_; rintro e w2 ⟨rfl, rfl⟩))
  exact bodyPost_ret (v := .tuple #[tokV 4 ⟨#[]⟩ v o, .int .i64 (o + j + 1), .bool true]) (by simp [results, Tryz.results111, go_sem, z0, z1, z2, z3, hz, Nat.ne_of_lt hz]) rfl ⟨rfl, (set4_ext (unhide H) _ (Nat.le_refl _) _ _ _ _).trans (Ext.alloc _ _)⟩

theorem number_any (s : ByteArray) (o : Nat) (w : World) (ho : o < s.size) (hs : s.size ≤ 140737488355328) (hd : dg s[o] = true) (he : Er w) : Tells 111 s o w (numT s o) := by
  by_cases hr : 9223372036854775807 < nv s o
  · unfold numT
    rw [if_pos hr]
    exact number_range s o w ho hs hd he hr
  · obtain ⟨h1, hp⟩ := num_digits s o ho hd
    rw [if_pos (by omega)] at hp
    have hle := nd_le s o
    have HP : Hd (∀ W, Calls Tryz.prog 108 #[.string s, .int .i64 o, fnV 110] W fun e w' => e = .returned (.int .i64 ((o + nd s o : Nat) : Int)) ∧ w' = W) := fun W => past_digit s o W (by omega) hs
    have HQ := hide (fun W => Tryz.strconv_ParseInt_10_at64_ok (s.extract o (o + nd s o)) (by rw [ByteArray.size_extract]; omega) _ hp W)
    unfold numT
    rw [if_neg hr]
    by_cases hj : s.size ≤ o + nd s o
    · rw [isI_end s _ hj, if_neg (by decide), nmAt_end s _ hj, if_neg (by decide)]
      exact number_end s o _ _ w hs hle ho HP HQ hj
    · have hj : o + nd s o < s.size := by omega
      rw [isI_at s _ hj, nmAt_at s _ hj]
      cases hi : ((s[o + nd s o].toNat : Int) == 105) with
      | false =>
        rw [if_neg (by decide)]
        cases hn : nm s[o + nd s o] with
        | false => rw [if_neg (by decide)]; exact number_plain_yes s o _ _ w hs hle ho HP HQ hj hi hn
        | true => rw [if_pos rfl]; exact number_plain_no s o _ _ w hs hle ho HP HQ hj hi hn
      | true =>
        rw [if_pos rfl]
        by_cases hk : s.size ≤ o + nd s o + 1
        · rw [nmAt_end s _ hk, if_neg (by decide)]
          exact number_imag_end s o _ _ w hs hle ho HP HQ hj hi hk
        · have hk : o + nd s o + 1 < s.size := by omega
          rw [nmAt_at s _ hk]
          cases hn : nm s[o + nd s o + 1] with
          | false => rw [if_neg (by decide)]; exact number_imag_yes s o _ _ w hs hle ho HP HQ hj hi hk hn
          | true => rw [if_pos rfl]; exact number_imag_no s o _ _ w hs hle ho HP HQ hj hi hk hn

end Go.Proofs.YtbcflcnkhhkogaaGreatDoor
