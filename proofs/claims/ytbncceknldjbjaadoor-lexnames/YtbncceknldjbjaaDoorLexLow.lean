/- What the lexer's least calls do: which bytes are digits, stand in names, stand in a line; how far such bytes go. -/
import Derived.Test.YtbncceknldjbjaaDoorChecked
import Derived.WalkKit
import Derived.WalkLawsBesides
import Derived.WalkSpells
import Derived.WalkMore
import Derived.ScopeJumps
import Derived.Below
import Derived.Deep.Draws
import Derived.Test.YtbncceknldjbjaaDoorLexFact
set_option linter.unusedSimpArgs false
set_option maxRecDepth 10000
namespace Go.Proofs.YtbncceknldjbjaaDoor
open Go.RowKit

theorem ret_bool {a b : Bool} (h : a = b) : Ending.returned (.bool a) = .returned (.bool b) := by rw [h]
theorem ret_int {k : IntKind} {a b : Int} (h : a = b) : Ending.returned (.int k a) = .returned (.int k b) := by rw [h]
abbrev fnV (f : FuncId) : Value := .func (.func f) #[] #[]

theorem isDigit_any (c : UInt8) (w : World) : Calls Tryd.prog 25 #[.int .u8 c.toNat] w fun e w' => e = .returned (.bool (dg c)) ∧ w' = w := by
  have h := c.toNat_lt
  have D := hide (dg_iff c)
  rcases (show c.toNat < 48 ∨ (48 ≤ c.toNat ∧ c.toNat ≤ 57) ∨ 57 < c.toNat by omega) with h1 | ⟨h1, h2⟩ | h1
  all_goals
    go_enter Tryd.func25, Tryd.ntmps25
    go_wp2
    go_ret
    refine ⟨ret_bool ?_, rfl⟩
    rw [Bool.eq_iff_iff, unhide D]
    simp <;> omega

theorem inLine_any (c : UInt8) (w : World) : Calls Tryd.prog 24 #[.int .u8 c.toNat] w fun e w' => e = .returned (.bool (ln c)) ∧ w' = w := by
  have h := c.toNat_lt
  have D := hide (ln_iff c)
  go_enter Tryd.func24, Tryd.ntmps24
  go_wp2
  go_ret
  refine ⟨ret_bool ?_, rfl⟩
  rw [Bool.eq_iff_iff, unhide D]
  simp <;> omega

theorem nm_dg (c : UInt8) (h : c.toNat < 65) : nm c = dg c := by
  rw [Bool.eq_iff_iff, nm_iff, dg_iff]; omega
theorem nm_yes (c : UInt8) (h : (97 ≤ c.toNat ∧ c.toNat ≤ 122) ∨ (65 ≤ c.toNat ∧ c.toNat ≤ 90) ∨ c.toNat = 95) : nm c = true := by
  rw [nm_iff]; omega
theorem nm_no (c : UInt8) (h : (90 < c.toNat ∧ c.toNat < 95) ∨ c.toNat = 96 ∨ 122 < c.toNat) : nm c = dg c := by
  rw [Bool.eq_iff_iff, nm_iff, dg_iff]; omega

set_option maxHeartbeats 1000000 in
theorem inName_A (c : UInt8) (w : World) (h1 : c.toNat < 65) : Calls Tryd.prog 27 #[.int .u8 c.toNat] w fun e w' => e = .returned (.bool (nm c)) ∧ w' = w := by
  have h := c.toNat_lt
  have e95 : ((c.toNat : Int) == 95) = false := by simp; omega
  have hn := hide (nm_dg c h1)
  have i0 : ¬ ((97 : Int) ≤ c.toNat) := by omega
  have i1 : ¬ ((65 : Int) ≤ c.toNat) := by omega
  clear h1
  go_enter Tryd.func27, Tryd.ntmps27
  go_wp2_with (go_at_call 25; refine (isDigit_any _ _).mono ?_; rintro e w' ⟨rfl, rfl⟩)
  go_ret
  exact ⟨ret_bool (unhide hn).symm, rfl⟩

set_option maxHeartbeats 1000000 in
theorem inName_B (c : UInt8) (w : World) (h1 : 65 ≤ c.toNat ∧ c.toNat ≤ 90) : Calls Tryd.prog 27 #[.int .u8 c.toNat] w fun e w' => e = .returned (.bool (nm c)) ∧ w' = w := by
  have h := c.toNat_lt
  have e95 : ((c.toNat : Int) == 95) = false := by simp; omega
  have hn := hide (nm_yes c (by omega))
  have i0 : ¬ ((97 : Int) ≤ c.toNat) := by omega
  have i1 : (65 : Int) ≤ c.toNat := by omega
  have i2 : (c.toNat : Int) ≤ 90 := by omega
  clear h1
  go_enter Tryd.func27, Tryd.ntmps27
  go_wp2_with (go_at_call 25; refine (isDigit_any _ _).mono ?_; rintro e w' ⟨rfl, rfl⟩)
  go_ret
  exact ⟨ret_bool (unhide hn).symm, rfl⟩

set_option maxHeartbeats 1000000 in
theorem inName_C (c : UInt8) (w : World) (h1 : 90 < c.toNat ∧ c.toNat < 95) : Calls Tryd.prog 27 #[.int .u8 c.toNat] w fun e w' => e = .returned (.bool (nm c)) ∧ w' = w := by
  have h := c.toNat_lt
  have e95 : ((c.toNat : Int) == 95) = false := by simp; omega
  have hn := hide (nm_no c (by omega))
  have i0 : ¬ ((97 : Int) ≤ c.toNat) := by omega
  have i1 : (65 : Int) ≤ c.toNat := by omega
  have i2 : ¬ ((c.toNat : Int) ≤ 90) := by omega
  clear h1
  go_enter Tryd.func27, Tryd.ntmps27
  go_wp2_with (go_at_call 25; refine (isDigit_any _ _).mono ?_; rintro e w' ⟨rfl, rfl⟩)
  go_ret
  exact ⟨ret_bool (unhide hn).symm, rfl⟩

set_option maxHeartbeats 1000000 in
theorem inName_D (c : UInt8) (w : World) (h1 : c.toNat = 95) : Calls Tryd.prog 27 #[.int .u8 c.toNat] w fun e w' => e = .returned (.bool (nm c)) ∧ w' = w := by
  have h := c.toNat_lt
  have e95 : ((c.toNat : Int) == 95) = true := by simp; omega
  have hn := hide (nm_yes c (by omega))
  have i0 : ¬ ((97 : Int) ≤ c.toNat) := by omega
  have i1 : (65 : Int) ≤ c.toNat := by omega
  have i2 : ¬ ((c.toNat : Int) ≤ 90) := by omega
  clear h1
  go_enter Tryd.func27, Tryd.ntmps27
  go_wp2_with (go_at_call 25; refine (isDigit_any _ _).mono ?_; rintro e w' ⟨rfl, rfl⟩)
  go_ret
  exact ⟨ret_bool (unhide hn).symm, rfl⟩

set_option maxHeartbeats 1000000 in
theorem inName_E (c : UInt8) (w : World) (h1 : c.toNat = 96) : Calls Tryd.prog 27 #[.int .u8 c.toNat] w fun e w' => e = .returned (.bool (nm c)) ∧ w' = w := by
  have h := c.toNat_lt
  have e95 : ((c.toNat : Int) == 95) = false := by simp; omega
  have hn := hide (nm_no c (by omega))
  have i0 : ¬ ((97 : Int) ≤ c.toNat) := by omega
  have i1 : (65 : Int) ≤ c.toNat := by omega
  have i2 : ¬ ((c.toNat : Int) ≤ 90) := by omega
  clear h1
  go_enter Tryd.func27, Tryd.ntmps27
  go_wp2_with (go_at_call 25; refine (isDigit_any _ _).mono ?_; rintro e w' ⟨rfl, rfl⟩)
  go_ret
  exact ⟨ret_bool (unhide hn).symm, rfl⟩

set_option maxHeartbeats 1000000 in
theorem inName_F (c : UInt8) (w : World) (h1 : 97 ≤ c.toNat ∧ c.toNat ≤ 122) : Calls Tryd.prog 27 #[.int .u8 c.toNat] w fun e w' => e = .returned (.bool (nm c)) ∧ w' = w := by
  have h := c.toNat_lt
  have e95 : ((c.toNat : Int) == 95) = false := by simp; omega
  have hn := hide (nm_yes c (by omega))
  have i0 : (97 : Int) ≤ c.toNat := by omega
  have i1 : (c.toNat : Int) ≤ 122 := by omega
  clear h1
  go_enter Tryd.func27, Tryd.ntmps27
  go_wp2_with (go_at_call 25; refine (isDigit_any _ _).mono ?_; rintro e w' ⟨rfl, rfl⟩)
  go_ret
  exact ⟨ret_bool (unhide hn).symm, rfl⟩

set_option maxHeartbeats 1000000 in
theorem inName_G (c : UInt8) (w : World) (h1 : 122 < c.toNat) : Calls Tryd.prog 27 #[.int .u8 c.toNat] w fun e w' => e = .returned (.bool (nm c)) ∧ w' = w := by
  have h := c.toNat_lt
  have e95 : ((c.toNat : Int) == 95) = false := by simp; omega
  have hn := hide (nm_no c (by omega))
  have i0 : (97 : Int) ≤ c.toNat := by omega
  have i1 : ¬ ((c.toNat : Int) ≤ 122) := by omega
  have i2 : (65 : Int) ≤ c.toNat := by omega
  have i3 : ¬ ((c.toNat : Int) ≤ 90) := by omega
  clear h1
  go_enter Tryd.func27, Tryd.ntmps27
  go_wp2_with (go_at_call 25; refine (isDigit_any _ _).mono ?_; rintro e w' ⟨rfl, rfl⟩)
  go_ret
  exact ⟨ret_bool (unhide hn).symm, rfl⟩

theorem inName_any (c : UInt8) (w : World) : Calls Tryd.prog 27 #[.int .u8 c.toNat] w fun e w' => e = .returned (.bool (nm c)) ∧ w' = w := by
  have h := c.toNat_lt
  rcases (show (c.toNat < 65) ∨ (65 ≤ c.toNat ∧ c.toNat ≤ 90) ∨ (90 < c.toNat ∧ c.toNat < 95) ∨ (c.toNat = 95) ∨ (c.toNat = 96) ∨ (97 ≤ c.toNat ∧ c.toNat ≤ 122) ∨ (122 < c.toNat) by omega) with h | h | h | h | h | h | h
  · exact inName_A c w h
  · exact inName_B c w h
  · exact inName_C c w h
  · exact inName_D c w h
  · exact inName_E c w h
  · exact inName_F c w h
  · exact inName_G c w h

/-- A scope whose run goes from the label on again and again: what holds at the label, a measure that each pass lowers. -/
theorem wp_scope_loop {P : Program} {a : Act} {w : World} {Q : Exit → Act → World → Prop} {c rest : Code} (l : Nat) (J : Act → World → Prop) (μ : Act → World → Nat) (hf : findLabel c l = some (Code.skip.seq rest))
    (pass : ∀ a w, J a w → rest.wp P (Exit.jump l (fun a' w' => J a' w' ∧ μ a' w' < μ a w) Q) a w)
    (first : (∀ a w, J a w → rest.wp P (Exit.jump l J Q) a w) → c.wp P (Exit.jump l J Q) a w) : (Code.scope c).wp P Q a w := by
  refine wp_scope_jumps l J μ hf (first fun a w h => ?_) fun a w h => wp_seq (wp_skip (pass a w h))
  refine Code.wp_mono ?_ (pass a w h)
  intro e a' w' h
  cases e <;> first | exact h | exact ⟨h.1, h.2.1⟩

theorem past_any (p : UInt8 → Bool) (f : FuncId) (hc : ∀ (v : Value) (W : World), (callFunc f #[v]).run Tryd.prog W = .ok (.enter f #[v]) W)
    (hf : ∀ (c : UInt8) (W : World), Calls Tryd.prog f #[.int .u8 c.toNat] W fun e w' => e = .returned (.bool (p c)) ∧ w' = W)
    (s : ByteArray) (o : Nat) (w : World) (ho : o ≤ s.size) (hs : s.size ≤ 140737488355328) :
    Calls Tryd.prog 23 #[.string s, .int .i64 o, fnV f] w fun e w' => e = .returned (.int .i64 ((o + run p ((L s).drop o) : Nat) : Int)) ∧ w' = w := by
  have HF := hide hf
  clear hf
  go_enter Tryd.func23, Tryd.ntmps23
  go_wp2
  refine wp_scope_loop 0 (fun a' w' => w' = w ∧ ∃ (k : Nat) (i : Int) (u7 u8 u9 u10 u11 u12 u13 u14 u15 u16 u17 u18 u19 : Value), a' = { tmps := #[.string s, .int .i64 i, fnV f, undef, undef, undef, .int .i64 0, u7, u8, u9, u10, u11, u12, u13, u14, u15, u16, u17, u18, u19, undef], defers := [] } ∧ i = k ∧ k ≤ s.size ∧ Hd (k + run p ((L s).drop k) = o + run p ((L s).drop o))) (fun a' _ => s.size - (intOf (a'.tmps.getD 1 undef)).toNat) rfl ?_ ?_
  · rintro a' w' ⟨rfl, k, i, u7, u8, u9, u10, u11, u12, u13, u14, u15, u16, u17, u18, u19, rfl, rfl, hk, hr⟩
    by_cases hlt : k < s.size
    · have E := hide (congrArg (run p) (L_drop s k hlt))
      cases hp : p s[k] with
      | true =>
        go_wp2_with (refine Calls.mono (unhide HF _ _) ?_; rintro e w1 ⟨rfl, rfl⟩)
        go_step3
        refine ⟨rfl, ⟨rfl, k + 1, _, _, _, _, _, _, _, _, _, _, _, _, _, _, rfl, by omega, by omega, ?_⟩, ?_⟩
        · have e := unhide E
          rw [run, if_pos hp] at e
          have := unhide hr
          show _ = _
          omega
        · simp [intOf]
          omega
      | false =>
        go_wp2_with (refine Calls.mono (unhide HF _ _) ?_; rintro e w1 ⟨rfl, rfl⟩)
        simp only [Exit.jump]
        go_ret
        refine ⟨ret_int ?_, rfl⟩
        have e := unhide E
        rw [run, hp, if_neg (by decide)] at e
        have := unhide hr
        omega
    · have E := hide (congrArg (run p) (L_end s k (by omega)))
      go_wp2
      simp only [Exit.jump]
      go_ret
      refine ⟨ret_int ?_, rfl⟩
      have e := unhide E
      rw [run] at e
      have := unhide hr
      omega
  · intro H
    refine wp_seq (wp_label ?_)
    exact H _ _ ⟨rfl, o, _, _, _, _, _, _, _, _, _, _, _, _, _, _, rfl, rfl, ho, rfl⟩

end Go.Proofs.YtbncceknldjbjaaDoor
