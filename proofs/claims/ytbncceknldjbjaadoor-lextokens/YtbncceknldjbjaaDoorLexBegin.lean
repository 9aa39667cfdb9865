/- How far what parts words goes. -/
import Derived.Test.YtbncceknldjbjaaDoorLexLow
set_option linter.unusedSimpArgs false
set_option maxRecDepth 10000
namespace Go.Proofs.YtbncceknldjbjaaDoor
open Go.RowKit

theorem enterLine (v : Value) (W : World) : (callFunc 24 #[v]).run Tryd.prog W = .ok (.enter 24 #[v]) W := by kernel_rfl
theorem enterDigit (v : Value) (W : World) : (callFunc 25 #[v]).run Tryd.prog W = .ok (.enter 25 #[v]) W := by kernel_rfl
theorem enterName (v : Value) (W : World) : (callFunc 27 #[v]).run Tryd.prog W = .ok (.enter 27 #[v]) W := by kernel_rfl

theorem past_line (s : ByteArray) (o : Nat) (w : World) (ho : o ≤ s.size) (hs : s.size ≤ 140737488355328) :
    Calls Tryd.prog 23 #[.string s, .int .i64 o, fnV 24] w fun e w' => e = .returned (.int .i64 ((o + run ln ((L s).drop o) : Nat) : Int)) ∧ w' = w := past_any ln _ enterLine inLine_any s o w ho hs
theorem past_digit (s : ByteArray) (o : Nat) (w : World) (ho : o ≤ s.size) (hs : s.size ≤ 140737488355328) :
    Calls Tryd.prog 23 #[.string s, .int .i64 o, fnV 25] w fun e w' => e = .returned (.int .i64 ((o + run dg ((L s).drop o) : Nat) : Int)) ∧ w' = w := past_any dg _ enterDigit isDigit_any s o w ho hs
theorem past_name (s : ByteArray) (o : Nat) (w : World) (ho : o ≤ s.size) (hs : s.size ≤ 140737488355328) :
    Calls Tryd.prog 23 #[.string s, .int .i64 o, fnV 27] w fun e w' => e = .returned (.int .i64 ((o + run nm ((L s).drop o) : Nat) : Int)) ∧ w' = w := past_any nm _ enterName inName_any s o w ho hs

set_option maxHeartbeats 2000000 in
theorem begin_any (s : ByteArray) (o : Nat) (w : World) (ho : o ≤ s.size) (hs : s.size ≤ 140737488355328) :
    Calls Tryd.prog 14 #[.string s, .int .i64 o] w fun e w' => e = .returned (.int .i64 ((o + skp false ((L s).drop o) : Nat) : Int)) ∧ w' = w := by
  go_enter Tryd.func14, Tryd.ntmps14
  go_wp2
  refine wp_scope_loop 0 (fun a' w' => w' = w ∧ ∃ (k : Nat) (i : Int) (u5 u6 u7 u8 u9 u10 u11 u12 u13 u14 u15 u16 u17 u18 u19 u20 u21 u22 u23 u24 : Value), a' = { tmps := #[.string s, .int .i64 i, undef, undef, .int .i64 0, u5, u6, u7, u8, u9, u10, u11, u12, u13, u14, u15, u16, u17, u18, u19, u20, u21, u22, u23, u24, undef], defers := [] } ∧ i = k ∧ k ≤ s.size ∧ Hd (k + skp false ((L s).drop k) = o + skp false ((L s).drop o))) (fun a' _ => s.size - (intOf (a'.tmps.getD 1 undef)).toNat) rfl ?_ ?_
  · rintro a' w' ⟨rfl, k, i, u5, u6, u7, u8, u9, u10, u11, u12, u13, u14, u15, u16, u17, u18, u19, u20, u21, u22, u23, u24, rfl, rfl, hk, hr⟩
    by_cases hlt : k < s.size
    · have E := hide (congrArg (skp false) (L_drop s k hlt))
      have hend : ((k : Int) == (s.size : Int)) = false := by simp; omega
      by_cases hb : bl s[k] = true
      · have hb' := (bl_iff _).1 hb
        have HB := hide hb
        clear hb
        rcases (show ((s[k].toNat : Int) == 32) = true ∨ (((s[k].toNat : Int) == 32) = false ∧ ((s[k].toNat : Int) == 9) = true) ∨ (((s[k].toNat : Int) == 32) = false ∧ ((s[k].toNat : Int) == 9) = false ∧ ((s[k].toNat : Int) == 10) = true) ∨ (((s[k].toNat : Int) == 32) = false ∧ ((s[k].toNat : Int) == 9) = false ∧ ((s[k].toNat : Int) == 10) = false ∧ ((s[k].toNat : Int) == 13) = true) by simp; omega) with b1 | ⟨b1, b2⟩ | ⟨b1, b2, b3⟩ | ⟨b1, b2, b3, b4⟩
        all_goals
          clear hb'
          go_wp2
          go_step3
          refine ⟨rfl, ⟨rfl, k + 1, _, _, _, _, _, _, _, _, _, _, _, _, _, _, _, _, _, _, _, _, _, rfl, by omega, by omega, ?_⟩, ?_⟩
          · have e := unhide E
            rw [skp, if_pos (unhide HB)] at e
            have := unhide hr
            show _ = _
            omega
          · simp [intOf]
            omega
      · have hb' : ¬ _ := fun h => hb ((bl_iff _).2 h)
        have HB := hide hb
        clear hb
        have b1 : ((s[k].toNat : Int) == 32) = false := by simp; omega
        have b2 : ((s[k].toNat : Int) == 9) = false := by simp; omega
        have b3 : ((s[k].toNat : Int) == 10) = false := by simp; omega
        have b4 : ((s[k].toNat : Int) == 13) = false := by simp; omega
        by_cases h35 : s[k].toNat = 35
        · have b5 : ((s[k].toNat : Int) == 35) = true := by simp; omega
          have hln : ln s[k] = true := by rw [ln_iff]; omega
          have hpos : 1 ≤ run ln ((L s).drop k) := by rw [L_drop s k hlt]; exact run_pos hln
          have hle : run ln ((L s).drop k) ≤ s.size - k := by
            have := run_le ln ((L s).drop k)
            rw [List.length_drop, L_len] at this
            exact this
          have M : Hd (skp false ((L s).drop k) = run ln ((L s).drop k) + skp false ((L s).drop (k + run ln ((L s).drop k)))) := by
            have := skp_mark s[k] ((L s).drop (k + 1)) h35
            rw [← L_drop s k hlt, List.drop_drop] at this
            exact this
          obtain ⟨j, hj⟩ : ∃ j, j = run ln ((L s).drop k) := ⟨_, rfl⟩
          have HP := hide (past_line s k w' (by omega) hs)
          rw [← hj] at HP M hpos hle
          clear hb' h35 hln hj
          go_wp2_with (go_at_call 23; refine Calls.mono (unhide HP) ?_; rintro e w1 ⟨rfl, rfl⟩)
          go_step3
          refine ⟨rfl, ⟨rfl, k + j, _, _, _, _, _, _, _, _, _, _, _, _, _, _, _, _, _, _, _, _, _, rfl, by omega, by omega, ?_⟩, ?_⟩
          · have := unhide hr
            have := unhide M
            show _ = _
            omega
          · simp [intOf]
            omega
        · have b5 : ((s[k].toNat : Int) == 35) = false := by simp; omega
          clear hb'
          have N := hide h35
          clear h35
          go_wp2
          simp only [Exit.jump]
          go_ret
          refine ⟨ret_int ?_, rfl⟩
          have e := unhide E
          rw [skp, if_neg (unhide HB), if_neg (unhide N)] at e
          have := unhide hr
          omega
    · have E := hide (congrArg (skp false) (L_end s k (by omega)))
      have hend : ((k : Int) == (s.size : Int)) = true := by simp; omega
      go_wp2
      simp only [Exit.jump]
      go_ret
      refine ⟨ret_int ?_, rfl⟩
      have e := unhide E
      rw [skp] at e
      have := unhide hr
      omega
  · intro H
    refine wp_seq (wp_label ?_)
    exact H _ _ ⟨rfl, o, _, _, _, _, _, _, _, _, _, _, _, _, _, _, _, _, _, _, _, _, _, rfl, rfl, ho, rfl⟩

end Go.Proofs.YtbncceknldjbjaaDoor
