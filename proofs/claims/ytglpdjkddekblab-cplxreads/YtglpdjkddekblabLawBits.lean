/- What the statement of bits and texts does, out of the contracts. -/
import Derived.Test.YtglpdjkddekblabTextOut
import Derived.Test.YtglpdjkddekblabLawLaws
set_option linter.unusedSimpArgs false
namespace Go.Proofs.Ytglpdjkddekblab
open Go.RowKit

theorem txt_data (u v : Nat) : (txt u v).data.toList = 60 :: (hx 16 u ++ 44 :: (hx 16 v ++ [62])) := by
  rw [← txt_list]; simp

theorem txt_size (u v : Nat) : (txt u v).size = 35 := by
  have : (txt u v).size = (txt u v).data.toList.length := by simp
  rw [this, txt_data]; simp [hx_length]

theorem rd_H {u : Nat} (h : Wd u) : rdL 0 (hx 16 u) = some u := by
  rw [rd_hx, Nat.zero_mul, Nat.zero_add, Nat.mod_eq_of_lt h]

theorem data_extract (s : ByteArray) (i j : Nat) : (s.extract i j).data.toList = (s.data.toList.drop i).take (j - i) := by
  rw [ByteArray.data_extract, Array.toList_extract]

theorem pr_txt {u v : Nat} (hu : Wd u) (hv : Wd v) (ho : okB u v = true) : pr (txt u v) = some (u, v) := by
  have hl := txt_data u v
  have hm : marks (txt u v) = true := by
    have g : ∀ i : Nat, (txt u v).data[i]? = (txt u v).data.toList[i]? := fun i => by simp
    unfold marks
    rw [txt_size, g, g, g, hl]
    have e1 : (60 :: (hx 16 u ++ 44 :: (hx 16 v ++ [62])))[17]? = some 44 := by
      rw [List.getElem?_cons_succ, List.getElem?_append_right (by rw [hx_length]; omega), hx_length]; rfl
    have e2 : (60 :: (hx 16 u ++ 44 :: (hx 16 v ++ [62])))[34]? = some 62 := by
      rw [List.getElem?_cons_succ, List.getElem?_append_right (by rw [hx_length]; omega), hx_length, show 33 - 16 = 16 + 1 from rfl, List.getElem?_cons_succ, List.getElem?_append_right (by rw [hx_length]; omega), hx_length]; rfl
    rw [e1, e2]; rfl
  have h1 : rdS ((txt u v).extract 1 17) = some u := by
    unfold rdS
    rw [data_extract, hl, List.drop_succ_cons, List.drop_zero, show 17 - 1 = 16 from rfl, List.take_left' (hx_length 16 u)]
    exact rd_H hu
  have h2 : rdS ((txt u v).extract 18 34) = some v := by
    unfold rdS
    rw [data_extract, hl, List.drop_succ_cons, show 17 = (hx 16 u).length + 1 by rw [hx_length], List.drop_append, List.drop_of_length_le (by omega), List.nil_append, show (hx 16 u).length + 1 - (hx 16 u).length = 1 by omega, List.drop_succ_cons, List.drop_zero, show 34 - 18 = 16 from rfl, List.take_left' (hx_length 16 v)]
    exact rd_H hv
  unfold pr
  rw [if_pos hm, h1, h2]
  simp only [Option.bind_some, ho, if_true]

theorem below_drewN {B : Nat} {a w : World} (h : Below B a w) (n : Nat) : Below B a (w.drewN n) := ⟨h.os, h.tape, h.output, h.size, h.block⟩

set_option maxHeartbeats 1000000 in
theorem bits_walk (a b : Nat) (ha : Wd a) (hb : Wd b) (w : World) :
    Calls Try.prog 3 #[.int .u64 a, .int .u64 b] w fun e w' => e = .returned (.bool true) ∧ Below w.heap.size w w' := by
  have hs := bitsB_self
  have S1 := cl_snd1 (b := b) ha
  have S2 := cl_snd2 (a := a) hb
  have hp := pr_txt S1.wd S2.wd (ok_of_clean a b)
  have w0 := wd_zero
  clear S1 S2
  cases hO : okB a b
  all_goals
    go_enter Try.func3, Try.ntmps3
    go_wp2_with (first | (go_at_call 6; refine (lof_any _ _ _).mono ?_; rintro e w' ⟨rfl, hw⟩; obtain rfl := hw.symm) | (go_at_call 7; refine (fromBits_any _ _ _ ?_ ?_).mono ?_; assumption; assumption; rintro e w' ⟨rfl, hw⟩; obtain rfl := hw.symm) | (go_at_call 8; refine (rok_any _ _ _ ?_ ?_).mono ?_; assumption; assumption; rintro e w' ⟨rfl, hw⟩; obtain rfl := hw.symm) | (go_at_call 9; refine (lbits_any _ _ _ _ _).mono ?_; rintro e w' ⟨rfl, hw⟩; obtain rfl := hw.symm) | (go_at_call 10; refine (rclean_any _ _ _).mono ?_; rintro e w' ⟨rfl, hw⟩; obtain rfl := hw.symm) | (go_at_call 11; refine (bitsOf_any _ _ _ ?_ ?_).mono ?_; assumption; assumption; rintro e w' ⟨rfl, hw⟩; obtain rfl := hw.symm) | (go_at_call 12; refine (text_any _ _ _ ?_ ?_).mono ?_; assumption; assumption; rintro e w1 ⟨rfl, bel⟩) | (go_at_call 13; refine (parse_any _ _).mono ?_; rintro e w' ⟨rfl, hw⟩; obtain rfl := hw.symm) | (go_at_call 15; refine (cxtext_any _ _ _ ?_ ?_).mono ?_; assumption; assumption; rintro e w' ⟨rfl, hw⟩; obtain rfl := hw.symm) | (go_at_call 16; refine (awake_any _).mono ?_; rintro e w' ⟨rfl, n, rfl⟩))
    go_ret
    exact ⟨rfl, below_drewN ‹_› _⟩

end Go.Proofs.Ytglpdjkddekblab
