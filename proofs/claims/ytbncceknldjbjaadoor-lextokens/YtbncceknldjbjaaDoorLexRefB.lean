/- The document's answer for words: its ops and its texts between quotes. -/
import Derived.Test.YtbncceknldjbjaaDoorLexRef
set_option linter.unusedSimpArgs false
set_option linter.unusedVariables false
set_option maxRecDepth 10000
namespace Go.Proofs.YtbncceknldjbjaaDoor
open Go.RowKit

theorem key_byte (c d : UInt8) : ([c] == [d]) = ((c.toNat : Int) == (d.toNat : Int)) := by
  rw [Bool.eq_iff_iff, beq_iff_eq, beq_iff_eq]
  constructor
  · intro h; injection h with h; rw [h]
  · intro h
    have : c = d := UInt8.toNat.inj (by omega)
    rw [this]
theorem o1_byte (c : UInt8) : o1 [c] = (((c.toNat : Int) == 40) || ((c.toNat : Int) == 41) || ((c.toNat : Int) == 123) || ((c.toNat : Int) == 125) || ((c.toNat : Int) == 91) || ((c.toNat : Int) == 93) || ((c.toNat : Int) == 44) || ((c.toNat : Int) == 59) || ((c.toNat : Int) == 61) || ((c.toNat : Int) == 43) || ((c.toNat : Int) == 45) || ((c.toNat : Int) == 42) || ((c.toNat : Int) == 47) || ((c.toNat : Int) == 37) || ((c.toNat : Int) == 60) || ((c.toNat : Int) == 62) || ((c.toNat : Int) == 33)) := by
  simp only [o1, key_byte]
  rfl

/-- The op at the front, as a text. -/
def opS (s : ByteArray) : ByteArray := s.extract 0 (opL (L s))
theorem ret_str {a b : ByteArray} (h : a = b) : Ending.returned (.string a) = .returned (.string b) := by rw [h]
theorem ext00 (s : ByteArray) : s.extract 0 0 = ⟨#[]⟩ := by
  apply L_inj
  rw [L_extract]
  rfl

def o1b (c : UInt8) : Bool := ((c.toNat : Int) == 40) || ((c.toNat : Int) == 41) || ((c.toNat : Int) == 123) || ((c.toNat : Int) == 125) || ((c.toNat : Int) == 91) || ((c.toNat : Int) == 93) || ((c.toNat : Int) == 44) || ((c.toNat : Int) == 59) || ((c.toNat : Int) == 61) || ((c.toNat : Int) == 43) || ((c.toNat : Int) == 45) || ((c.toNat : Int) == 42) || ((c.toNat : Int) == 47) || ((c.toNat : Int) == 37) || ((c.toNat : Int) == 60) || ((c.toNat : Int) == 62) || ((c.toNat : Int) == 33)

set_option maxHeartbeats 8000000 in
theorem rop_two (s : ByteArray) (w : World) (h1 : 2 ≤ s.size) (hs : s.size ≤ 140737488355328) :
    Calls Tryd.prog 21 #[.string s] w fun e w' => e = .returned (.string (opS s)) ∧ w' = w := by
  have hone : (L s).take 1 = [s[0]] := by
    have := L_drop s 0 (by omega)
    rw [List.drop_zero] at this
    rw [this]
    rfl
  have ht2 : (L s).take 2 = (s.extract 0 2).toList := by rw [toL, L_extract, List.drop_zero]
  have V2 : Hd (o2 (s.extract 0 2).toList = true → s.extract 0 2 = opS s) := by
    intro h
    unfold opS opL
    rw [ht2]
    rw [if_pos h]
  have V1 : Hd (o2 (s.extract 0 2).toList = false → o1b s[0] = true → s.extract 0 1 = opS s) := by
    intro h h1
    unfold opS opL
    rw [ht2]
    rw [if_neg (by rw [h]; decide), hone, o1_byte]
    rw [if_pos (by exact h1)]
  have V0 : Hd (o2 (s.extract 0 2).toList = false → o1b s[0] = false → (⟨#[]⟩ : ByteArray) = opS s) := by
    intro h h1
    unfold opS opL
    rw [ht2]
    rw [if_neg (by rw [h]; decide), hone, o1_byte]
    rw [if_neg (by show ¬ o1b s[0] = true; rw [h1]; decide)]
    exact (ext00 s).symm
  clear hone ht2
  rcases Bool.eq_false_or_eq_true ((s.extract 0 2).toList == [61, 61]) with p0 | p0
  · (go_enter Tryd.func21, Tryd.ntmps21; go_wp2; go_ret; exact ⟨ret_str ((unhide V2) (by simp_all [o2])), rfl⟩)
  rcases Bool.eq_false_or_eq_true ((s.extract 0 2).toList == [33, 61]) with p1 | p1
  · (go_enter Tryd.func21, Tryd.ntmps21; go_wp2; go_ret; exact ⟨ret_str ((unhide V2) (by simp_all [o2])), rfl⟩)
  rcases Bool.eq_false_or_eq_true ((s.extract 0 2).toList == [60, 61]) with p2 | p2
  · (go_enter Tryd.func21, Tryd.ntmps21; go_wp2; go_ret; exact ⟨ret_str ((unhide V2) (by simp_all [o2])), rfl⟩)
  rcases Bool.eq_false_or_eq_true ((s.extract 0 2).toList == [62, 61]) with p3 | p3
  · (go_enter Tryd.func21, Tryd.ntmps21; go_wp2; go_ret; exact ⟨ret_str ((unhide V2) (by simp_all [o2])), rfl⟩)
  rcases Bool.eq_false_or_eq_true ((s.extract 0 2).toList == [38, 38]) with p4 | p4
  · (go_enter Tryd.func21, Tryd.ntmps21; go_wp2; go_ret; exact ⟨ret_str ((unhide V2) (by simp_all [o2])), rfl⟩)
  rcases Bool.eq_false_or_eq_true ((s.extract 0 2).toList == [124, 124]) with p5 | p5
  · (go_enter Tryd.func21, Tryd.ntmps21; go_wp2; go_ret; exact ⟨ret_str ((unhide V2) (by simp_all [o2])), rfl⟩)
  rcases Bool.eq_false_or_eq_true ((s[0].toNat : Int) == 40) with q0 | q0
  · (go_enter Tryd.func21, Tryd.ntmps21; go_wp2; go_ret; exact ⟨ret_str ((unhide V1) (by simp_all [o2]) (by simp_all [o1b])), rfl⟩)
  rcases Bool.eq_false_or_eq_true ((s[0].toNat : Int) == 41) with q1 | q1
  · (go_enter Tryd.func21, Tryd.ntmps21; go_wp2; go_ret; exact ⟨ret_str ((unhide V1) (by simp_all [o2]) (by simp_all [o1b])), rfl⟩)
  rcases Bool.eq_false_or_eq_true ((s[0].toNat : Int) == 123) with q2 | q2
  · (go_enter Tryd.func21, Tryd.ntmps21; go_wp2; go_ret; exact ⟨ret_str ((unhide V1) (by simp_all [o2]) (by simp_all [o1b])), rfl⟩)
  rcases Bool.eq_false_or_eq_true ((s[0].toNat : Int) == 125) with q3 | q3
  · (go_enter Tryd.func21, Tryd.ntmps21; go_wp2; go_ret; exact ⟨ret_str ((unhide V1) (by simp_all [o2]) (by simp_all [o1b])), rfl⟩)
  rcases Bool.eq_false_or_eq_true ((s[0].toNat : Int) == 91) with q4 | q4
  · (go_enter Tryd.func21, Tryd.ntmps21; go_wp2; go_ret; exact ⟨ret_str ((unhide V1) (by simp_all [o2]) (by simp_all [o1b])), rfl⟩)
  rcases Bool.eq_false_or_eq_true ((s[0].toNat : Int) == 93) with q5 | q5
  · (go_enter Tryd.func21, Tryd.ntmps21; go_wp2; go_ret; exact ⟨ret_str ((unhide V1) (by simp_all [o2]) (by simp_all [o1b])), rfl⟩)
  rcases Bool.eq_false_or_eq_true ((s[0].toNat : Int) == 44) with q6 | q6
  · (go_enter Tryd.func21, Tryd.ntmps21; go_wp2; go_ret; exact ⟨ret_str ((unhide V1) (by simp_all [o2]) (by simp_all [o1b])), rfl⟩)
  rcases Bool.eq_false_or_eq_true ((s[0].toNat : Int) == 59) with q7 | q7
  · (go_enter Tryd.func21, Tryd.ntmps21; go_wp2; go_ret; exact ⟨ret_str ((unhide V1) (by simp_all [o2]) (by simp_all [o1b])), rfl⟩)
  rcases Bool.eq_false_or_eq_true ((s[0].toNat : Int) == 61) with q8 | q8
  · (go_enter Tryd.func21, Tryd.ntmps21; go_wp2; go_ret; exact ⟨ret_str ((unhide V1) (by simp_all [o2]) (by simp_all [o1b])), rfl⟩)
  rcases Bool.eq_false_or_eq_true ((s[0].toNat : Int) == 43) with q9 | q9
  · (go_enter Tryd.func21, Tryd.ntmps21; go_wp2; go_ret; exact ⟨ret_str ((unhide V1) (by simp_all [o2]) (by simp_all [o1b])), rfl⟩)
  rcases Bool.eq_false_or_eq_true ((s[0].toNat : Int) == 45) with q10 | q10
  · (go_enter Tryd.func21, Tryd.ntmps21; go_wp2; go_ret; exact ⟨ret_str ((unhide V1) (by simp_all [o2]) (by simp_all [o1b])), rfl⟩)
  rcases Bool.eq_false_or_eq_true ((s[0].toNat : Int) == 42) with q11 | q11
  · (go_enter Tryd.func21, Tryd.ntmps21; go_wp2; go_ret; exact ⟨ret_str ((unhide V1) (by simp_all [o2]) (by simp_all [o1b])), rfl⟩)
  rcases Bool.eq_false_or_eq_true ((s[0].toNat : Int) == 47) with q12 | q12
  · (go_enter Tryd.func21, Tryd.ntmps21; go_wp2; go_ret; exact ⟨ret_str ((unhide V1) (by simp_all [o2]) (by simp_all [o1b])), rfl⟩)
  rcases Bool.eq_false_or_eq_true ((s[0].toNat : Int) == 37) with q13 | q13
  · (go_enter Tryd.func21, Tryd.ntmps21; go_wp2; go_ret; exact ⟨ret_str ((unhide V1) (by simp_all [o2]) (by simp_all [o1b])), rfl⟩)
  rcases Bool.eq_false_or_eq_true ((s[0].toNat : Int) == 60) with q14 | q14
  · (go_enter Tryd.func21, Tryd.ntmps21; go_wp2; go_ret; exact ⟨ret_str ((unhide V1) (by simp_all [o2]) (by simp_all [o1b])), rfl⟩)
  rcases Bool.eq_false_or_eq_true ((s[0].toNat : Int) == 62) with q15 | q15
  · (go_enter Tryd.func21, Tryd.ntmps21; go_wp2; go_ret; exact ⟨ret_str ((unhide V1) (by simp_all [o2]) (by simp_all [o1b])), rfl⟩)
  rcases Bool.eq_false_or_eq_true ((s[0].toNat : Int) == 33) with q16 | q16
  · (go_enter Tryd.func21, Tryd.ntmps21; go_wp2; go_ret; exact ⟨ret_str ((unhide V1) (by simp_all [o2]) (by simp_all [o1b])), rfl⟩)
  go_enter Tryd.func21, Tryd.ntmps21
  go_wp2
  go_ret
  exact ⟨ret_str ((unhide V0) (by simp_all [o2]) (by simp_all [o1b])), rfl⟩

set_option maxHeartbeats 8000000 in
theorem rop_one (s : ByteArray) (w : World) (h1 : s.size = 1) :
    Calls Tryd.prog 21 #[.string s] w fun e w' => e = .returned (.string (opS s)) ∧ w' = w := by
  have hone : (L s).take 1 = [s[0]] := by
    have := L_drop s 0 (by omega)
    rw [List.drop_zero] at this
    rw [this]
    rfl
  have ht2 : (L s).take 2 = [s[0]] := by
    rw [List.take_of_length_le (by rw [L_len]; omega), ← hone, List.take_of_length_le (by rw [L_len]; omega)]
  have V2 : Hd (o2 [s[0]] = true → s.extract 0 2 = opS s) := by
    intro h
    unfold opS opL
    rw [ht2]
    rw [if_pos h]
  have V1 : Hd (o2 [s[0]] = false → o1b s[0] = true → s.extract 0 1 = opS s) := by
    intro h h1
    unfold opS opL
    rw [ht2]
    rw [if_neg (by rw [h]; decide), hone, o1_byte]
    rw [if_pos (by exact h1)]
  have V0 : Hd (o2 [s[0]] = false → o1b s[0] = false → (⟨#[]⟩ : ByteArray) = opS s) := by
    intro h h1
    unfold opS opL
    rw [ht2]
    rw [if_neg (by rw [h]; decide), hone, o1_byte]
    rw [if_neg (by show ¬ o1b s[0] = true; rw [h1]; decide)]
    exact (ext00 s).symm
  clear hone ht2
  rcases Bool.eq_false_or_eq_true ((s[0].toNat : Int) == 40) with q0 | q0
  · (go_enter Tryd.func21, Tryd.ntmps21; go_wp2; go_ret; exact ⟨ret_str ((unhide V1) (by simp_all [o2]) (by simp_all [o1b])), rfl⟩)
  rcases Bool.eq_false_or_eq_true ((s[0].toNat : Int) == 41) with q1 | q1
  · (go_enter Tryd.func21, Tryd.ntmps21; go_wp2; go_ret; exact ⟨ret_str ((unhide V1) (by simp_all [o2]) (by simp_all [o1b])), rfl⟩)
  rcases Bool.eq_false_or_eq_true ((s[0].toNat : Int) == 123) with q2 | q2
  · (go_enter Tryd.func21, Tryd.ntmps21; go_wp2; go_ret; exact ⟨ret_str ((unhide V1) (by simp_all [o2]) (by simp_all [o1b])), rfl⟩)
  rcases Bool.eq_false_or_eq_true ((s[0].toNat : Int) == 125) with q3 | q3
  · (go_enter Tryd.func21, Tryd.ntmps21; go_wp2; go_ret; exact ⟨ret_str ((unhide V1) (by simp_all [o2]) (by simp_all [o1b])), rfl⟩)
  rcases Bool.eq_false_or_eq_true ((s[0].toNat : Int) == 91) with q4 | q4
  · (go_enter Tryd.func21, Tryd.ntmps21; go_wp2; go_ret; exact ⟨ret_str ((unhide V1) (by simp_all [o2]) (by simp_all [o1b])), rfl⟩)
  rcases Bool.eq_false_or_eq_true ((s[0].toNat : Int) == 93) with q5 | q5
  · (go_enter Tryd.func21, Tryd.ntmps21; go_wp2; go_ret; exact ⟨ret_str ((unhide V1) (by simp_all [o2]) (by simp_all [o1b])), rfl⟩)
  rcases Bool.eq_false_or_eq_true ((s[0].toNat : Int) == 44) with q6 | q6
  · (go_enter Tryd.func21, Tryd.ntmps21; go_wp2; go_ret; exact ⟨ret_str ((unhide V1) (by simp_all [o2]) (by simp_all [o1b])), rfl⟩)
  rcases Bool.eq_false_or_eq_true ((s[0].toNat : Int) == 59) with q7 | q7
  · (go_enter Tryd.func21, Tryd.ntmps21; go_wp2; go_ret; exact ⟨ret_str ((unhide V1) (by simp_all [o2]) (by simp_all [o1b])), rfl⟩)
  rcases Bool.eq_false_or_eq_true ((s[0].toNat : Int) == 61) with q8 | q8
  · (go_enter Tryd.func21, Tryd.ntmps21; go_wp2; go_ret; exact ⟨ret_str ((unhide V1) (by simp_all [o2]) (by simp_all [o1b])), rfl⟩)
  rcases Bool.eq_false_or_eq_true ((s[0].toNat : Int) == 43) with q9 | q9
  · (go_enter Tryd.func21, Tryd.ntmps21; go_wp2; go_ret; exact ⟨ret_str ((unhide V1) (by simp_all [o2]) (by simp_all [o1b])), rfl⟩)
  rcases Bool.eq_false_or_eq_true ((s[0].toNat : Int) == 45) with q10 | q10
  · (go_enter Tryd.func21, Tryd.ntmps21; go_wp2; go_ret; exact ⟨ret_str ((unhide V1) (by simp_all [o2]) (by simp_all [o1b])), rfl⟩)
  rcases Bool.eq_false_or_eq_true ((s[0].toNat : Int) == 42) with q11 | q11
  · (go_enter Tryd.func21, Tryd.ntmps21; go_wp2; go_ret; exact ⟨ret_str ((unhide V1) (by simp_all [o2]) (by simp_all [o1b])), rfl⟩)
  rcases Bool.eq_false_or_eq_true ((s[0].toNat : Int) == 47) with q12 | q12
  · (go_enter Tryd.func21, Tryd.ntmps21; go_wp2; go_ret; exact ⟨ret_str ((unhide V1) (by simp_all [o2]) (by simp_all [o1b])), rfl⟩)
  rcases Bool.eq_false_or_eq_true ((s[0].toNat : Int) == 37) with q13 | q13
  · (go_enter Tryd.func21, Tryd.ntmps21; go_wp2; go_ret; exact ⟨ret_str ((unhide V1) (by simp_all [o2]) (by simp_all [o1b])), rfl⟩)
  rcases Bool.eq_false_or_eq_true ((s[0].toNat : Int) == 60) with q14 | q14
  · (go_enter Tryd.func21, Tryd.ntmps21; go_wp2; go_ret; exact ⟨ret_str ((unhide V1) (by simp_all [o2]) (by simp_all [o1b])), rfl⟩)
  rcases Bool.eq_false_or_eq_true ((s[0].toNat : Int) == 62) with q15 | q15
  · (go_enter Tryd.func21, Tryd.ntmps21; go_wp2; go_ret; exact ⟨ret_str ((unhide V1) (by simp_all [o2]) (by simp_all [o1b])), rfl⟩)
  rcases Bool.eq_false_or_eq_true ((s[0].toNat : Int) == 33) with q16 | q16
  · (go_enter Tryd.func21, Tryd.ntmps21; go_wp2; go_ret; exact ⟨ret_str ((unhide V1) (by simp_all [o2]) (by simp_all [o1b])), rfl⟩)
  go_enter Tryd.func21, Tryd.ntmps21
  go_wp2
  go_ret
  exact ⟨ret_str ((unhide V0) (by simp_all [o2]) (by simp_all [o1b])), rfl⟩

theorem rop_any (s : ByteArray) (w : World) (h1 : 1 ≤ s.size) (hs : s.size ≤ 140737488355328) :
    Calls Tryd.prog 21 #[.string s] w fun e w' => e = .returned (.string (opS s)) ∧ w' = w := by
  by_cases h : s.size = 1
  · exact rop_one s w h
  · exact rop_two s w (by omega) hs

end Go.Proofs.YtbncceknldjbjaaDoor
