/- What stands at the front of a text: a word of the language, an op, a byte of a text between quotes. -/
import Derived.Test.YtbncceknldjbjaaDoorLexBegin
set_option linter.unusedSimpArgs false
set_option maxRecDepth 10000
namespace Go.Proofs.YtbncceknldjbjaaDoor
open Go.RowKit

theorem toL (s : ByteArray) : s.toList = L s := ByteArray.toList_eq s
/-- The words of the language. -/
def wordL (l : List UInt8) : Bool := l == [102, 110] || l == [108, 101, 116] || l == [105, 102] || l == [101, 108, 115, 101] || l == [119, 104, 105, 108, 101] || l == [98, 114, 101, 97, 107] || l == [99, 111, 110, 116, 105, 110, 117, 101] || l == [114, 101, 116, 117, 114, 110] || l == [112, 114, 105, 110, 116] || l == [110, 105, 108]
/-- The ops of two signs, of one. -/
def o2 (l : List UInt8) : Bool := l == [61, 61] || l == [33, 61] || l == [60, 61] || l == [62, 61] || l == [38, 38] || l == [124, 124]
def o1 (l : List UInt8) : Bool := l == [40] || l == [41] || l == [123] || l == [125] || l == [91] || l == [93] || l == [44] || l == [59] || l == [61] || l == [43] || l == [45] || l == [42] || l == [47] || l == [37] || l == [60] || l == [62] || l == [33]
/-- How long the op at the front is. -/
def opL (l : List UInt8) : Nat := if o2 (l.take 2) then 2 else if o1 (l.take 1) then 1 else 0

set_option maxHeartbeats 4000000 in
theorem isWord_any (s : ByteArray) (w : World) :
    Calls Tryd.prog 33 #[.string s] w fun e w' => e = .returned (.bool (wordL (L s))) ∧ w' = w := by
  have K : Hd (wordL (L s) = wordL s.toList) := by rw [toL]; exact rfl
  go_enter Tryd.func33, Tryd.ntmps33
  go_wp2
  all_goals
    go_ret
    refine ⟨ret_bool ?_, rfl⟩
    rw [unhide K]
    simp_all [wordL]

theorem o2_short (s : ByteArray) (h : s.size = 1) : o2 (s.extract 0 1).toList = false := by
  obtain ⟨x, hx⟩ : ∃ x, (s.extract 0 1).toList = [x] := by
    rw [toL, L_extract, List.drop_zero]
    have hl := L_len s
    match hL : L s with
    | [] => rw [hL] at hl; simp at hl; omega
    | x :: r => exact ⟨x, rfl⟩
  rw [hx]
  simp [o2]

set_option maxHeartbeats 8000000 in
theorem opLen_two (s : ByteArray) (w : World) (h1 : 2 ≤ s.size) (hs : s.size ≤ 140737488355328) :
    Calls Tryd.prog 36 #[.string s] w fun e w' => e = .returned (.int .i64 (opL (L s) : Nat)) ∧ w' = w := by
  have K : Hd (opL (L s) = if o2 (s.extract 0 2).toList then 2 else if o1 (s.extract 0 1).toList then 1 else 0) := by
    rw [toL, toL, L_extract, L_extract, List.drop_zero]; exact rfl
  rcases Bool.eq_false_or_eq_true ((s.extract 0 2).toList == [61, 61]) with p0 | p0
  · (go_enter Tryd.func36, Tryd.ntmps36; go_wp2; go_ret; refine ⟨ret_int ?_, rfl⟩; rw [unhide K]; simp_all [o2, o1])
  rcases Bool.eq_false_or_eq_true ((s.extract 0 2).toList == [33, 61]) with p1 | p1
  · (go_enter Tryd.func36, Tryd.ntmps36; go_wp2; go_ret; refine ⟨ret_int ?_, rfl⟩; rw [unhide K]; simp_all [o2, o1])
  rcases Bool.eq_false_or_eq_true ((s.extract 0 2).toList == [60, 61]) with p2 | p2
  · (go_enter Tryd.func36, Tryd.ntmps36; go_wp2; go_ret; refine ⟨ret_int ?_, rfl⟩; rw [unhide K]; simp_all [o2, o1])
  rcases Bool.eq_false_or_eq_true ((s.extract 0 2).toList == [62, 61]) with p3 | p3
  · (go_enter Tryd.func36, Tryd.ntmps36; go_wp2; go_ret; refine ⟨ret_int ?_, rfl⟩; rw [unhide K]; simp_all [o2, o1])
  rcases Bool.eq_false_or_eq_true ((s.extract 0 2).toList == [38, 38]) with p4 | p4
  · (go_enter Tryd.func36, Tryd.ntmps36; go_wp2; go_ret; refine ⟨ret_int ?_, rfl⟩; rw [unhide K]; simp_all [o2, o1])
  rcases Bool.eq_false_or_eq_true ((s.extract 0 2).toList == [124, 124]) with p5 | p5
  · (go_enter Tryd.func36, Tryd.ntmps36; go_wp2; go_ret; refine ⟨ret_int ?_, rfl⟩; rw [unhide K]; simp_all [o2, o1])
  rcases Bool.eq_false_or_eq_true ((s.extract 0 1).toList == [40]) with q0 | q0
  · (go_enter Tryd.func36, Tryd.ntmps36; go_wp2; go_ret; refine ⟨ret_int ?_, rfl⟩; rw [unhide K]; simp_all [o2, o1])
  rcases Bool.eq_false_or_eq_true ((s.extract 0 1).toList == [41]) with q1 | q1
  · (go_enter Tryd.func36, Tryd.ntmps36; go_wp2; go_ret; refine ⟨ret_int ?_, rfl⟩; rw [unhide K]; simp_all [o2, o1])
  rcases Bool.eq_false_or_eq_true ((s.extract 0 1).toList == [123]) with q2 | q2
  · (go_enter Tryd.func36, Tryd.ntmps36; go_wp2; go_ret; refine ⟨ret_int ?_, rfl⟩; rw [unhide K]; simp_all [o2, o1])
  rcases Bool.eq_false_or_eq_true ((s.extract 0 1).toList == [125]) with q3 | q3
  · (go_enter Tryd.func36, Tryd.ntmps36; go_wp2; go_ret; refine ⟨ret_int ?_, rfl⟩; rw [unhide K]; simp_all [o2, o1])
  rcases Bool.eq_false_or_eq_true ((s.extract 0 1).toList == [91]) with q4 | q4
  · (go_enter Tryd.func36, Tryd.ntmps36; go_wp2; go_ret; refine ⟨ret_int ?_, rfl⟩; rw [unhide K]; simp_all [o2, o1])
  rcases Bool.eq_false_or_eq_true ((s.extract 0 1).toList == [93]) with q5 | q5
  · (go_enter Tryd.func36, Tryd.ntmps36; go_wp2; go_ret; refine ⟨ret_int ?_, rfl⟩; rw [unhide K]; simp_all [o2, o1])
  rcases Bool.eq_false_or_eq_true ((s.extract 0 1).toList == [44]) with q6 | q6
  · (go_enter Tryd.func36, Tryd.ntmps36; go_wp2; go_ret; refine ⟨ret_int ?_, rfl⟩; rw [unhide K]; simp_all [o2, o1])
  rcases Bool.eq_false_or_eq_true ((s.extract 0 1).toList == [59]) with q7 | q7
  · (go_enter Tryd.func36, Tryd.ntmps36; go_wp2; go_ret; refine ⟨ret_int ?_, rfl⟩; rw [unhide K]; simp_all [o2, o1])
  rcases Bool.eq_false_or_eq_true ((s.extract 0 1).toList == [61]) with q8 | q8
  · (go_enter Tryd.func36, Tryd.ntmps36; go_wp2; go_ret; refine ⟨ret_int ?_, rfl⟩; rw [unhide K]; simp_all [o2, o1])
  rcases Bool.eq_false_or_eq_true ((s.extract 0 1).toList == [43]) with q9 | q9
  · (go_enter Tryd.func36, Tryd.ntmps36; go_wp2; go_ret; refine ⟨ret_int ?_, rfl⟩; rw [unhide K]; simp_all [o2, o1])
  rcases Bool.eq_false_or_eq_true ((s.extract 0 1).toList == [45]) with q10 | q10
  · (go_enter Tryd.func36, Tryd.ntmps36; go_wp2; go_ret; refine ⟨ret_int ?_, rfl⟩; rw [unhide K]; simp_all [o2, o1])
  rcases Bool.eq_false_or_eq_true ((s.extract 0 1).toList == [42]) with q11 | q11
  · (go_enter Tryd.func36, Tryd.ntmps36; go_wp2; go_ret; refine ⟨ret_int ?_, rfl⟩; rw [unhide K]; simp_all [o2, o1])
  rcases Bool.eq_false_or_eq_true ((s.extract 0 1).toList == [47]) with q12 | q12
  · (go_enter Tryd.func36, Tryd.ntmps36; go_wp2; go_ret; refine ⟨ret_int ?_, rfl⟩; rw [unhide K]; simp_all [o2, o1])
  rcases Bool.eq_false_or_eq_true ((s.extract 0 1).toList == [37]) with q13 | q13
  · (go_enter Tryd.func36, Tryd.ntmps36; go_wp2; go_ret; refine ⟨ret_int ?_, rfl⟩; rw [unhide K]; simp_all [o2, o1])
  rcases Bool.eq_false_or_eq_true ((s.extract 0 1).toList == [60]) with q14 | q14
  · (go_enter Tryd.func36, Tryd.ntmps36; go_wp2; go_ret; refine ⟨ret_int ?_, rfl⟩; rw [unhide K]; simp_all [o2, o1])
  rcases Bool.eq_false_or_eq_true ((s.extract 0 1).toList == [62]) with q15 | q15
  · (go_enter Tryd.func36, Tryd.ntmps36; go_wp2; go_ret; refine ⟨ret_int ?_, rfl⟩; rw [unhide K]; simp_all [o2, o1])
  rcases Bool.eq_false_or_eq_true ((s.extract 0 1).toList == [33]) with q16 | q16
  · (go_enter Tryd.func36, Tryd.ntmps36; go_wp2; go_ret; refine ⟨ret_int ?_, rfl⟩; rw [unhide K]; simp_all [o2, o1])
  go_enter Tryd.func36, Tryd.ntmps36
  go_wp2
  go_ret
  refine ⟨ret_int ?_, rfl⟩
  rw [unhide K]
  simp_all [o2, o1]

set_option maxHeartbeats 8000000 in
theorem opLen_one (s : ByteArray) (w : World) (h1 : s.size = 1) :
    Calls Tryd.prog 36 #[.string s] w fun e w' => e = .returned (.int .i64 (opL (L s) : Nat)) ∧ w' = w := by
  have K : Hd (opL (L s) = if o2 (s.extract 0 1).toList then 2 else if o1 (s.extract 0 1).toList then 1 else 0) := by
    have e2 : (L s).take 2 = (L s).take 1 := by rw [List.take_of_length_le (by rw [L_len]; omega), List.take_of_length_le (by rw [L_len]; omega)]
    rw [toL, L_extract, List.drop_zero]
    show (if o2 ((L s).take 2) = true then 2 else _) = _
    rw [e2]
  have hq := o2_short s h1
  have p0 : ((s.extract 0 1).toList == [61, 61]) = false := by simp [o2] at hq; simp [hq]
  have p1 : ((s.extract 0 1).toList == [33, 61]) = false := by simp [o2] at hq; simp [hq]
  have p2 : ((s.extract 0 1).toList == [60, 61]) = false := by simp [o2] at hq; simp [hq]
  have p3 : ((s.extract 0 1).toList == [62, 61]) = false := by simp [o2] at hq; simp [hq]
  have p4 : ((s.extract 0 1).toList == [38, 38]) = false := by simp [o2] at hq; simp [hq]
  have p5 : ((s.extract 0 1).toList == [124, 124]) = false := by simp [o2] at hq; simp [hq]
  clear hq
  rcases Bool.eq_false_or_eq_true ((s.extract 0 1).toList == [40]) with q0 | q0
  · (go_enter Tryd.func36, Tryd.ntmps36; go_wp2; go_ret; refine ⟨ret_int ?_, rfl⟩; rw [unhide K]; simp_all [o2, o1])
  rcases Bool.eq_false_or_eq_true ((s.extract 0 1).toList == [41]) with q1 | q1
  · (go_enter Tryd.func36, Tryd.ntmps36; go_wp2; go_ret; refine ⟨ret_int ?_, rfl⟩; rw [unhide K]; simp_all [o2, o1])
  rcases Bool.eq_false_or_eq_true ((s.extract 0 1).toList == [123]) with q2 | q2
  · (go_enter Tryd.func36, Tryd.ntmps36; go_wp2; go_ret; refine ⟨ret_int ?_, rfl⟩; rw [unhide K]; simp_all [o2, o1])
  rcases Bool.eq_false_or_eq_true ((s.extract 0 1).toList == [125]) with q3 | q3
  · (go_enter Tryd.func36, Tryd.ntmps36; go_wp2; go_ret; refine ⟨ret_int ?_, rfl⟩; rw [unhide K]; simp_all [o2, o1])
  rcases Bool.eq_false_or_eq_true ((s.extract 0 1).toList == [91]) with q4 | q4
  · (go_enter Tryd.func36, Tryd.ntmps36; go_wp2; go_ret; refine ⟨ret_int ?_, rfl⟩; rw [unhide K]; simp_all [o2, o1])
  rcases Bool.eq_false_or_eq_true ((s.extract 0 1).toList == [93]) with q5 | q5
  · (go_enter Tryd.func36, Tryd.ntmps36; go_wp2; go_ret; refine ⟨ret_int ?_, rfl⟩; rw [unhide K]; simp_all [o2, o1])
  rcases Bool.eq_false_or_eq_true ((s.extract 0 1).toList == [44]) with q6 | q6
  · (go_enter Tryd.func36, Tryd.ntmps36; go_wp2; go_ret; refine ⟨ret_int ?_, rfl⟩; rw [unhide K]; simp_all [o2, o1])
  rcases Bool.eq_false_or_eq_true ((s.extract 0 1).toList == [59]) with q7 | q7
  · (go_enter Tryd.func36, Tryd.ntmps36; go_wp2; go_ret; refine ⟨ret_int ?_, rfl⟩; rw [unhide K]; simp_all [o2, o1])
  rcases Bool.eq_false_or_eq_true ((s.extract 0 1).toList == [61]) with q8 | q8
  · (go_enter Tryd.func36, Tryd.ntmps36; go_wp2; go_ret; refine ⟨ret_int ?_, rfl⟩; rw [unhide K]; simp_all [o2, o1])
  rcases Bool.eq_false_or_eq_true ((s.extract 0 1).toList == [43]) with q9 | q9
  · (go_enter Tryd.func36, Tryd.ntmps36; go_wp2; go_ret; refine ⟨ret_int ?_, rfl⟩; rw [unhide K]; simp_all [o2, o1])
  rcases Bool.eq_false_or_eq_true ((s.extract 0 1).toList == [45]) with q10 | q10
  · (go_enter Tryd.func36, Tryd.ntmps36; go_wp2; go_ret; refine ⟨ret_int ?_, rfl⟩; rw [unhide K]; simp_all [o2, o1])
  rcases Bool.eq_false_or_eq_true ((s.extract 0 1).toList == [42]) with q11 | q11
  · (go_enter Tryd.func36, Tryd.ntmps36; go_wp2; go_ret; refine ⟨ret_int ?_, rfl⟩; rw [unhide K]; simp_all [o2, o1])
  rcases Bool.eq_false_or_eq_true ((s.extract 0 1).toList == [47]) with q12 | q12
  · (go_enter Tryd.func36, Tryd.ntmps36; go_wp2; go_ret; refine ⟨ret_int ?_, rfl⟩; rw [unhide K]; simp_all [o2, o1])
  rcases Bool.eq_false_or_eq_true ((s.extract 0 1).toList == [37]) with q13 | q13
  · (go_enter Tryd.func36, Tryd.ntmps36; go_wp2; go_ret; refine ⟨ret_int ?_, rfl⟩; rw [unhide K]; simp_all [o2, o1])
  rcases Bool.eq_false_or_eq_true ((s.extract 0 1).toList == [60]) with q14 | q14
  · (go_enter Tryd.func36, Tryd.ntmps36; go_wp2; go_ret; refine ⟨ret_int ?_, rfl⟩; rw [unhide K]; simp_all [o2, o1])
  rcases Bool.eq_false_or_eq_true ((s.extract 0 1).toList == [62]) with q15 | q15
  · (go_enter Tryd.func36, Tryd.ntmps36; go_wp2; go_ret; refine ⟨ret_int ?_, rfl⟩; rw [unhide K]; simp_all [o2, o1])
  rcases Bool.eq_false_or_eq_true ((s.extract 0 1).toList == [33]) with q16 | q16
  · (go_enter Tryd.func36, Tryd.ntmps36; go_wp2; go_ret; refine ⟨ret_int ?_, rfl⟩; rw [unhide K]; simp_all [o2, o1])
  go_enter Tryd.func36, Tryd.ntmps36
  go_wp2
  go_ret
  refine ⟨ret_int ?_, rfl⟩
  rw [unhide K]
  simp_all [o2, o1]

theorem opLen_any (s : ByteArray) (w : World) (h1 : 1 ≤ s.size) (hs : s.size ≤ 140737488355328) :
    Calls Tryd.prog 36 #[.string s] w fun e w' => e = .returned (.int .i64 (opL (L s) : Nat)) ∧ w' = w := by
  by_cases h : s.size = 1
  · exact opLen_one s w h
  · exact opLen_two s w (by omega) hs

/-- The byte that the front of a text between quotes tells, and how many bytes tell it. -/
def sg : List UInt8 → UInt8 × Nat
  | [] => (0, 0)
  | [c] => if c.toNat = 92 then (0, 0) else (c, 1)
  | c :: d :: _ => if c.toNat = 92 then (if d.toNat = 34 ∨ d.toNat = 92 then (d, 2) else if d.toNat = 110 then (10, 2) else (0, 0)) else (c, 1)

theorem ret_un {a b c d : Int} (h : a = c) (k : b = d) : Ending.returned (.tuple #[.int .u8 a, .int .i64 b]) = .returned (.tuple #[.int .u8 c, .int .i64 d]) := by rw [h, k]

set_option maxHeartbeats 2000000 in
theorem sign_any (s : ByteArray) (w : World) (h1 : 1 ≤ s.size) (hs : s.size ≤ 140737488355328) :
    Calls Tryd.prog 35 #[.string s] w fun e w' => e = .returned (.tuple #[.int .u8 (sg (L s)).1.toNat, .int .i64 (sg (L s)).2]) ∧ w' = w := by
  have hL0 := L_drop s 0 (by omega)
  rw [List.drop_zero] at hL0
  by_cases hc : s[0].toNat = 92
  · have n0 : ((s[0].toNat : Int) != 92) = false := by simp; omega
    by_cases h2 : s.size = 1
    · have K : Hd (sg (L s) = (0, 0)) := by
        rw [hL0, L_end s 1 (by omega)]
        show sg [_] = _
        rw [sg, if_pos hc]
      clear hL0 hc
      go_enter Tryd.func35, Tryd.ntmps35
      go_wp2
      go_ret2
      rw [unhide K]
      exact ⟨rfl, rfl⟩
    · have hL1 := L_drop s 1 (by omega)
      have e1 : ((s.size : Int) == 1) = false := by simp; omega
      have hlt : 1 < s.size := by omega
      have K : Hd (sg (L s) = if s[1].toNat = 34 ∨ s[1].toNat = 92 then (s[1], 2) else if s[1].toNat = 110 then (10, 2) else (0, 0)) := by
        rw [hL0, show 0 + 1 = 1 from rfl, hL1]
        show sg (_ :: _ :: _) = _
        rw [sg, if_pos hc]
      clear hL0 hL1 hc
      by_cases d1 : s[1].toNat = 34
      · have b1 : ((s[1].toNat : Int) == 34) = true := by simp; omega
        have D := hide d1
        clear d1
        go_enter Tryd.func35, Tryd.ntmps35
        go_wp2
        go_ret2
        rw [unhide K, if_pos (Or.inl (unhide D))]
        exact ⟨rfl, rfl⟩
      · have b1 : ((s[1].toNat : Int) == 34) = false := by simp; omega
        by_cases d2 : s[1].toNat = 92
        · have b2 : ((s[1].toNat : Int) == 92) = true := by simp; omega
          have D := hide d2
          clear d1 d2
          go_enter Tryd.func35, Tryd.ntmps35
          go_wp2
          go_ret2
          rw [unhide K, if_pos (Or.inr (unhide D))]
          exact ⟨rfl, rfl⟩
        · have b2 : ((s[1].toNat : Int) == 92) = false := by simp; omega
          by_cases d3 : s[1].toNat = 110
          · have b3 : ((s[1].toNat : Int) == 110) = true := by simp; omega
            have K' : Hd (sg (L s) = (10, 2)) := by
              have := unhide K
              rw [if_neg (by omega), if_pos d3] at this
              exact this
            clear d1 d2 d3 K
            go_enter Tryd.func35, Tryd.ntmps35
            go_wp2
            go_ret2
            rw [unhide K']
            exact ⟨rfl, rfl⟩
          · have b3 : ((s[1].toNat : Int) == 110) = false := by simp; omega
            have K' : Hd (sg (L s) = (0, 0)) := by
              have := unhide K
              rw [if_neg (by omega), if_neg d3] at this
              exact this
            clear d1 d2 d3 K
            go_enter Tryd.func35, Tryd.ntmps35
            go_wp2
            go_ret2
            rw [unhide K']
            exact ⟨rfl, rfl⟩
  · have n0 : ((s[0].toNat : Int) != 92) = true := by simp; omega
    have K : Hd (sg (L s) = (s[0], 1)) := by
      rw [hL0]
      cases (L s).drop (0 + 1) with
      | nil => show sg [_] = _; rw [sg, if_neg hc]
      | cons d r => show sg (_ :: _ :: _) = _; rw [sg, if_neg hc]
    clear hL0 hc
    go_enter Tryd.func35, Tryd.ntmps35
    go_wp2
    go_ret2
    rw [unhide K]
    exact ⟨rfl, rfl⟩

end Go.Proofs.YtbncceknldjbjaaDoor
