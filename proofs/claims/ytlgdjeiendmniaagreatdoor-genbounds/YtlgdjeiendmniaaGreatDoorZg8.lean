/- Words as plain lists of bytes: which bytes stand together, what is skipped ahead of a word, what digits spell. · What the lexer's least calls do: which bytes are digits, stand in names, stand in a line; how far such bytes go. · How far what parts words goes. · What stands at the front of a text: a word of the language, an op, a byte of a text between quotes. -/
import Derived.Lib.ParseIntB
import Derived.Laws.Strings
import Derived.Test.YtlgdjeiendmniaaGreatDoorChecked
import Derived.WalkKit
import Derived.WalkLawsBesides
import Derived.WalkSpells
import Derived.WalkMore
import Derived.ScopeJumps
import Derived.Below
import Derived.Deep.Draws
set_option linter.unusedSimpArgs false
set_option maxRecDepth 10000

namespace Go.Proofs.YtlgdjeiendmniaaGreatDoor

/-- A hypothesis that the walk shall not take for a rule. -/
def Hd (p : Prop) : Prop := p
theorem hide {p : Prop} (h : p) : Hd p := h
theorem unhide {p : Prop} (h : Hd p) : p := h

/-- A text's bytes. -/
def L (s : ByteArray) : List UInt8 := s.data.toList
theorem L_len (s : ByteArray) : (L s).length = s.size := by simp [L]
theorem L_mk (l : List UInt8) : L ⟨l.toArray⟩ = l := rfl
theorem mk_L (s : ByteArray) : (⟨(L s).toArray⟩ : ByteArray) = s := by
  apply ByteArray.ext; simp [L]
theorem L_inj {s t : ByteArray} (h : L s = L t) : s = t := by rw [← mk_L s, ← mk_L t, h]
theorem L_drop (s : ByteArray) (k : Nat) (h : k < s.size) : (L s).drop k = s[k] :: (L s).drop (k + 1) := by
  rw [List.drop_eq_getElem_cons (by rw [L_len]; exact h)]; rfl
theorem L_end (s : ByteArray) (k : Nat) (h : s.size ≤ k) : (L s).drop k = [] := List.drop_of_length_le (by rw [L_len]; exact h)
theorem L_get (s : ByteArray) (k : Nat) (h : k < s.size) : (L s)[k]? = some s[k] := by
  rw [List.getElem?_eq_getElem (by rw [L_len]; exact h)]; rfl
theorem L_extract (s : ByteArray) (a b : Nat) : L (s.extract a b) = ((L s).drop a).take (b - a) := by
  simp only [L, ByteArray.data_extract, Array.toList_extract, List.extract_eq_take_drop]
theorem L_append (s t : ByteArray) : L (s ++ t) = L s ++ L t := by
  simp only [L, ByteArray.data_append, Array.toList_append]

/-- The sorts of bytes. -/
def dg (c : UInt8) : Bool := decide (48 ≤ c.toNat) && decide (c.toNat ≤ 57)
def nm (c : UInt8) : Bool := decide (97 ≤ c.toNat) && decide (c.toNat ≤ 122) || (decide (65 ≤ c.toNat) && decide (c.toNat ≤ 90) || (c.toNat == 95 || dg c))
def ln (c : UInt8) : Bool := c.toNat != 10
def bl (c : UInt8) : Bool := c.toNat == 32 || (c.toNat == 9 || (c.toNat == 10 || c.toNat == 13))

theorem dg_iff (c : UInt8) : dg c = true ↔ 48 ≤ c.toNat ∧ c.toNat ≤ 57 := by simp [dg]
theorem nm_iff (c : UInt8) : nm c = true ↔ (97 ≤ c.toNat ∧ c.toNat ≤ 122) ∨ (65 ≤ c.toNat ∧ c.toNat ≤ 90) ∨ c.toNat = 95 ∨ (48 ≤ c.toNat ∧ c.toNat ≤ 57) := by simp [nm, dg]
theorem ln_iff (c : UInt8) : ln c = true ↔ c.toNat ≠ 10 := by simp [ln]
theorem bl_iff (c : UInt8) : bl c = true ↔ c.toNat = 32 ∨ c.toNat = 9 ∨ c.toNat = 10 ∨ c.toNat = 13 := by simp [bl]

/-- How many bytes at the front are of a sort. -/
def run (p : UInt8 → Bool) : List UInt8 → Nat
  | [] => 0
  | c :: r => if p c then 1 + run p r else 0

theorem run_le (p : UInt8 → Bool) : ∀ l, run p l ≤ l.length
  | [] => Nat.le_refl _
  | c :: r => by
    have := run_le p r
    rw [run]
    split
    · simp only [List.length_cons]; omega
    · exact Nat.zero_le _

theorem run_all {p : UInt8 → Bool} : ∀ (l t : List UInt8), (∀ c ∈ l, p c = true) → (∀ c ∈ t.head?, p c = false) → run p (l ++ t) = l.length
  | [], [], _, _ => rfl
  | [], c :: t, _, h => by
    have h' : p c = false := h c rfl
    simp [run, h']
  | c :: r, t, h, k => by
    have h' := h c (by simp)
    rw [List.cons_append, run, if_pos h', run_all r t (fun x hx => h x (by simp [hx])) k, List.length_cons, Nat.add_comm]

theorem run_take {p : UInt8 → Bool} : ∀ (l : List UInt8), ∀ c ∈ l.take (run p l), p c = true
  | [], c, h => by simp at h
  | x :: r, c, h => by
    rw [run] at h
    split at h
    · rename_i hx
      rw [Nat.add_comm, List.take_succ_cons] at h
      rcases List.mem_cons.1 h with rfl | h
      · exact hx
      · exact run_take r c h
    · simp at h

theorem run_next {p : UInt8 → Bool} : ∀ (l : List UInt8) (c : UInt8), l[run p l]? = some c → p c = false
  | [], c, h => by simp at h
  | x :: r, c, h => by
    rw [run] at h
    split at h
    · rw [Nat.add_comm, List.getElem?_cons_succ] at h
      exact run_next r c h
    · rename_i hx
      simp only [List.getElem?_cons_zero, Option.some.injEq] at h
      subst h
      simpa using hx

theorem run_pos {p : UInt8 → Bool} {c : UInt8} {r : List UInt8} (h : p c = true) : 1 ≤ run p (c :: r) := by rw [run, if_pos h]; omega

/-- How many bytes are skipped ahead of a word; first: behind a mark of a remark. -/
def skp : Bool → List UInt8 → Nat
  | _, [] => 0
  | true, c :: r => if c.toNat = 10 then 1 + skp false r else 1 + skp true r
  | false, c :: r => if bl c then 1 + skp false r else if c.toNat = 35 then 1 + skp true r else 0

theorem skp_le : ∀ (l : List UInt8) (b : Bool), skp b l ≤ l.length
  | [], b => by cases b <;> exact Nat.le_refl _
  | c :: r, b => by
    have h1 := skp_le r true
    have h2 := skp_le r false
    cases b <;> rw [skp]
    · split
      · simp only [List.length_cons]; omega
      · split
        · simp only [List.length_cons]; omega
        · omega
    · split <;> simp only [List.length_cons] <;> omega

theorem skp_true : ∀ l, skp true l = run ln l + skp false (l.drop (run ln l))
  | [] => rfl
  | c :: r => by
    rw [skp, run]
    by_cases h : c.toNat = 10
    · have hb : bl c = true := by rw [bl_iff]; omega
      have hl : ln c = false := by simp [ln, h]
      rw [if_pos h, hl, if_neg (by decide), List.drop_zero, skp, if_pos hb]
      omega
    · have hl : ln c = true := by rw [ln_iff]; exact h
      rw [if_neg h, if_pos hl, Nat.add_comm 1 (run ln r), List.drop_succ_cons, skp_true r]
      omega

theorem skp_mark (c : UInt8) (r : List UInt8) (h : c.toNat = 35) : skp false (c :: r) = run ln (c :: r) + skp false ((c :: r).drop (run ln (c :: r))) := by
  have hl : ln c = true := by rw [ln_iff]; omega
  have hb : bl c = false := by
    rw [← Bool.not_eq_true, bl_iff]; omega
  rw [skp, hb, if_neg (by decide), if_pos h, skp_true r, run, if_pos hl, Nat.add_comm 1 (run ln r), List.drop_succ_cons]
  omega

/-- What digits spell. -/
def dv (a : Nat) (l : List UInt8) : Nat := l.foldl (fun x c => x * 10 + (c.toNat - 48)) a
theorem dv_nil (a : Nat) : dv a [] = a := rfl
theorem dv_cons (a : Nat) (c : UInt8) (r : List UInt8) : dv a (c :: r) = dv (a * 10 + (c.toNat - 48)) r := by unfold dv; rw [List.foldl_cons]
theorem dv_snoc (a : Nat) (c : UInt8) (r : List UInt8) : dv a (r ++ [c]) = dv a r * 10 + (c.toNat - 48) := by simp [dv]

theorem dv_ge (l : List UInt8) : ∀ a, a ≤ dv a l := by
  induction l with
  | nil => intro a; rw [dv_nil]; exact Nat.le_refl _
  | cons c r ih =>
    intro a
    have := ih (a * 10 + (c.toNat - 48))
    rw [dv_cons]
    omega

theorem parseM (M : Nat) (hM : M = 18446744073709551615) (l : List UInt8) : ∀ a, (∀ c ∈ l, dg c = true) → a ≤ M →
    Lib.parseUintM M a l = if dv a l ≤ M then .ok (dv a l) else .range := by
  induction l with
  | nil => intro a _ ha; rw [Lib.parseUintM, dv_nil, if_pos ha]
  | cons c r ih =>
    intro a h ha
    have hc := (dg_iff c).1 (h c (by simp))
    have hg := dv_ge r (a * 10 + (c.toNat - 48))
    rw [Lib.parseUintM, if_pos hc, dv_cons]
    by_cases h1 : 1844674407370955162 ≤ a
    · rw [if_pos h1, if_neg (by omega)]
    · rw [if_neg h1]
      by_cases h2 : M < a * 10 + (c.toNat - 48)
      · rw [if_pos h2, if_neg (by omega)]
      · rw [if_neg h2]
        exact ih _ (fun x hx => h x (by simp [hx])) (by omega)

theorem parse_digits (l : List UInt8) (hne : l ≠ []) (h : ∀ c ∈ l, dg c = true) :
    Lib.parseIntB 64 l = if dv 0 l ≤ 9223372036854775807 then .ok (dv 0 l : Int) else .range := by
  cases l with
  | nil => exact absurd rfl hne
  | cons c r =>
    have hc := (dg_iff c).1 (h c (by simp))
    have hs : ¬ (c.toNat = 43 ∨ c.toNat = 45) := by omega
    have h45 : ¬ c.toNat = 45 := by omega
    have e := parseM (2 ^ 64 - 1) rfl (c :: r) 0 h (by omega)
    unfold Lib.parseIntB Lib.parseUintB
    simp only [if_neg hs, if_neg hne]
    rw [e]
    by_cases h1 : dv 0 (c :: r) ≤ 2 ^ 64 - 1
    · rw [if_pos h1]
      by_cases h2 : dv 0 (c :: r) ≤ 9223372036854775807
      · simp only [h45, not_false_eq_true, true_and, false_and, if_false]
        rw [if_neg (by omega), if_pos h2]
      · simp only [h45, not_false_eq_true, true_and, false_and, if_false]
        rw [if_pos (by omega), if_neg h2]
    · rw [if_neg h1, if_neg (by omega)]

end Go.Proofs.YtlgdjeiendmniaaGreatDoor

namespace Go.Proofs.YtlgdjeiendmniaaGreatDoor
open Go.RowKit

theorem ret_bool {a b : Bool} (h : a = b) : Ending.returned (.bool a) = .returned (.bool b) := by rw [h]
theorem ret_int {k : IntKind} {a b : Int} (h : a = b) : Ending.returned (.int k a) = .returned (.int k b) := by rw [h]
abbrev fnV (f : FuncId) : Value := .func (.func f) #[] #[]

theorem isDigit_any (c : UInt8) (w : World) : Calls Tryz.prog 103 #[.int .u8 c.toNat] w fun e w' => e = .returned (.bool (dg c)) ∧ w' = w := by
  have h := c.toNat_lt
  have D := hide (dg_iff c)
  rcases (show c.toNat < 48 ∨ (48 ≤ c.toNat ∧ c.toNat ≤ 57) ∨ 57 < c.toNat by omega) with h1 | ⟨h1, h2⟩ | h1
  all_goals
    go_enter Tryz.func103, Tryz.ntmps103
    go_wp2
    go_ret
    refine ⟨ret_bool ?_, rfl⟩
    rw [Bool.eq_iff_iff, unhide D]
    simp <;> omega

theorem inLine_any (c : UInt8) (w : World) : Calls Tryz.prog 102 #[.int .u8 c.toNat] w fun e w' => e = .returned (.bool (ln c)) ∧ w' = w := by
  have h := c.toNat_lt
  have D := hide (ln_iff c)
  go_enter Tryz.func102, Tryz.ntmps102
  go_wp2
  go_ret
  refine ⟨ret_bool ?_, rfl⟩
  rw [Bool.eq_iff_iff, unhide D]
  simp <;> omega

theorem nm_dg (c : UInt8) (h : c.toNat < 65) : nm c = dg c := by
  rw [Bool.eq_iff_iff, nm_iff, dg_iff]; omega
theorem nm_yes (c : UInt8) (h : (97 ≤ c.toNat ∧ c.toNat ≤ 122) ∨ (65 ≤ c.toNat ∧ c.toNat ≤ 90) ∨ c.toNat = 95) : nm c = true := by
  rw [nm_iff]; omega
theorem nm_no (c : UInt8) (h : (90 < c.toNat ∧ c.toNat < 95) ∨ c.toNat = 96 ∨ 122 < c.toNat) : nm c = dg c := by
  rw [Bool.eq_iff_iff, nm_iff, dg_iff]; omega

set_option maxHeartbeats 1000000 in
theorem inName_A (c : UInt8) (w : World) (h1 : c.toNat < 65) : Calls Tryz.prog 105 #[.int .u8 c.toNat] w fun e w' => e = .returned (.bool (nm c)) ∧ w' = w := by
  have h := c.toNat_lt
  have e95 : ((c.toNat : Int) == 95) = false := by simp; omega
  have hn := hide (nm_dg c h1)
  have i0 : ¬ ((97 : Int) ≤ c.toNat) := by omega
  have i1 : ¬ ((65 : Int) ≤ c.toNat) := by omega
  clear h1
  go_enter Tryz.func105, Tryz.ntmps105
  go_wp2_with (go_at_call 103; refine (isDigit_any _ _).mono ?_; rintro e w' ⟨rfl, rfl⟩)
  go_ret
  exact ⟨ret_bool (unhide hn).symm, rfl⟩

set_option maxHeartbeats 1000000 in
theorem inName_B (c : UInt8) (w : World) (h1 : 65 ≤ c.toNat ∧ c.toNat ≤ 90) : Calls Tryz.prog 105 #[.int .u8 c.toNat] w fun e w' => e = .returned (.bool (nm c)) ∧ w' = w := by
  have h := c.toNat_lt
  have e95 : ((c.toNat : Int) == 95) = false := by simp; omega
  have hn := hide (nm_yes c (by omega))
  have i0 : ¬ ((97 : Int) ≤ c.toNat) := by omega
  have i1 : (65 : Int) ≤ c.toNat := by omega
  have i2 : (c.toNat : Int) ≤ 90 := by omega
  clear h1
  go_enter Tryz.func105, Tryz.ntmps105
  go_wp2_with (go_at_call 103; refine (isDigit_any _ _).mono ?_; rintro e w' ⟨rfl, rfl⟩)
  go_ret
  exact ⟨ret_bool (unhide hn).symm, rfl⟩

set_option maxHeartbeats 1000000 in
theorem inName_C (c : UInt8) (w : World) (h1 : 90 < c.toNat ∧ c.toNat < 95) : Calls Tryz.prog 105 #[.int .u8 c.toNat] w fun e w' => e = .returned (.bool (nm c)) ∧ w' = w := by
  have h := c.toNat_lt
  have e95 : ((c.toNat : Int) == 95) = false := by simp; omega
  have hn := hide (nm_no c (by omega))
  have i0 : ¬ ((97 : Int) ≤ c.toNat) := by omega
  have i1 : (65 : Int) ≤ c.toNat := by omega
  have i2 : ¬ ((c.toNat : Int) ≤ 90) := by omega
  clear h1
  go_enter Tryz.func105, Tryz.ntmps105
  go_wp2_with (go_at_call 103; refine (isDigit_any _ _).mono ?_; rintro e w' ⟨rfl, rfl⟩)
  go_ret
  exact ⟨ret_bool (unhide hn).symm, rfl⟩

set_option maxHeartbeats 1000000 in
theorem inName_D (c : UInt8) (w : World) (h1 : c.toNat = 95) : Calls Tryz.prog 105 #[.int .u8 c.toNat] w fun e w' => e = .returned (.bool (nm c)) ∧ w' = w := by
  have h := c.toNat_lt
  have e95 : ((c.toNat : Int) == 95) = true := by simp; omega
  have hn := hide (nm_yes c (by omega))
  have i0 : ¬ ((97 : Int) ≤ c.toNat) := by omega
  have i1 : (65 : Int) ≤ c.toNat := by omega
  have i2 : ¬ ((c.toNat : Int) ≤ 90) := by omega
  clear h1
  go_enter Tryz.func105, Tryz.ntmps105
  go_wp2_with (go_at_call 103; refine (isDigit_any _ _).mono ?_; rintro e w' ⟨rfl, rfl⟩)
  go_ret
  exact ⟨ret_bool (unhide hn).symm, rfl⟩

set_option maxHeartbeats 1000000 in
theorem inName_E (c : UInt8) (w : World) (h1 : c.toNat = 96) : Calls Tryz.prog 105 #[.int .u8 c.toNat] w fun e w' => e = .returned (.bool (nm c)) ∧ w' = w := by
  have h := c.toNat_lt
  have e95 : ((c.toNat : Int) == 95) = false := by simp; omega
  have hn := hide (nm_no c (by omega))
  have i0 : ¬ ((97 : Int) ≤ c.toNat) := by omega
  have i1 : (65 : Int) ≤ c.toNat := by omega
  have i2 : ¬ ((c.toNat : Int) ≤ 90) := by omega
  clear h1
  go_enter Tryz.func105, Tryz.ntmps105
  go_wp2_with (go_at_call 103; refine (isDigit_any _ _).mono ?_; rintro e w' ⟨rfl, rfl⟩)
  go_ret
  exact ⟨ret_bool (unhide hn).symm, rfl⟩

set_option maxHeartbeats 1000000 in
theorem inName_F (c : UInt8) (w : World) (h1 : 97 ≤ c.toNat ∧ c.toNat ≤ 122) : Calls Tryz.prog 105 #[.int .u8 c.toNat] w fun e w' => e = .returned (.bool (nm c)) ∧ w' = w := by
  have h := c.toNat_lt
  have e95 : ((c.toNat : Int) == 95) = false := by simp; omega
  have hn := hide (nm_yes c (by omega))
  have i0 : (97 : Int) ≤ c.toNat := by omega
  have i1 : (c.toNat : Int) ≤ 122 := by omega
  clear h1
  go_enter Tryz.func105, Tryz.ntmps105
  go_wp2_with (go_at_call 103; refine (isDigit_any _ _).mono ?_; rintro e w' ⟨rfl, rfl⟩)
  go_ret
  exact ⟨ret_bool (unhide hn).symm, rfl⟩

set_option maxHeartbeats 1000000 in
theorem inName_G (c : UInt8) (w : World) (h1 : 122 < c.toNat) : Calls Tryz.prog 105 #[.int .u8 c.toNat] w fun e w' => e = .returned (.bool (nm c)) ∧ w' = w := by
  have h := c.toNat_lt
  have e95 : ((c.toNat : Int) == 95) = false := by simp; omega
  have hn := hide (nm_no c (by omega))
  have i0 : (97 : Int) ≤ c.toNat := by omega
  have i1 : ¬ ((c.toNat : Int) ≤ 122) := by omega
  have i2 : (65 : Int) ≤ c.toNat := by omega
  have i3 : ¬ ((c.toNat : Int) ≤ 90) := by omega
  clear h1
  go_enter Tryz.func105, Tryz.ntmps105
  go_wp2_with (go_at_call 103; refine (isDigit_any _ _).mono ?_; rintro e w' ⟨rfl, rfl⟩)
  go_ret
  exact ⟨ret_bool (unhide hn).symm, rfl⟩

theorem inName_any (c : UInt8) (w : World) : Calls Tryz.prog 105 #[.int .u8 c.toNat] w fun e w' => e = .returned (.bool (nm c)) ∧ w' = w := by
  have h := c.toNat_lt
  rcases (show (c.toNat < 65) ∨ (65 ≤ c.toNat ∧ c.toNat ≤ 90) ∨ (90 < c.toNat ∧ c.toNat < 95) ∨ (c.toNat = 95) ∨ (c.toNat = 96) ∨ (97 ≤ c.toNat ∧ c.toNat ≤ 122) ∨ (122 < c.toNat) by omega) with h | h | h | h | h | h | h
  · exact inName_A c w h
  · exact inName_B c w h
  · exact inName_C c w h
  · exact inName_D c w h
  · exact inName_E c w h
  · exact inName_F c w h
  · exact inName_G c w h

/-- A scope whose run goes from the label on again and again: what holds at the label, a measure that each pass lowers. -/
theorem wp_scope_loop {P : Program} {a : Act} {w : World} {Q : Exit → Act → World → Prop} {c rest : Code} (l : Nat) (J : Act → World → Prop) (μ : Act → World → Nat) (hf : findLabel c l = some (Code.skip.seq rest))
    (pass : ∀ a w, J a w → rest.wp P (Exit.jump l (fun a' w' => J a' w' ∧ μ a' w' < μ a w) Q) a w)
    (first : (∀ a w, J a w → rest.wp P (Exit.jump l J Q) a w) → c.wp P (Exit.jump l J Q) a w) : (Code.scope c).wp P Q a w := by
  refine wp_scope_jumps l J μ hf (first fun a w h => ?_) fun a w h => wp_seq (wp_skip (pass a w h))
  refine Code.wp_mono ?_ (pass a w h)
  intro e a' w' h
  cases e <;> first | exact h | exact ⟨h.1, h.2.1⟩

theorem past_any (p : UInt8 → Bool) (f : FuncId) (hc : ∀ (v : Value) (W : World), (callFunc f #[v]).run Tryz.prog W = .ok (.enter f #[v]) W)
    (hf : ∀ (c : UInt8) (W : World), Calls Tryz.prog f #[.int .u8 c.toNat] W fun e w' => e = .returned (.bool (p c)) ∧ w' = W)
    (s : ByteArray) (o : Nat) (w : World) (ho : o ≤ s.size) (hs : s.size ≤ 140737488355328) :
    Calls Tryz.prog 101 #[.string s, .int .i64 o, fnV f] w fun e w' => e = .returned (.int .i64 ((o + run p ((L s).drop o) : Nat) : Int)) ∧ w' = w := by
  have HF := hide hf
  clear hf
  go_enter Tryz.func101, Tryz.ntmps101
  go_wp2
  refine wp_scope_loop 0 (fun a' w' => w' = w ∧ ∃ (k : Nat) (i : Int) (u7 u8 u9 u10 u11 u12 u13 u14 u15 u16 u17 u18 u19 : Value), a' = { tmps := #[.string s, .int .i64 i, fnV f, undef, undef, undef, .int .i64 0, u7, u8, u9, u10, u11, u12, u13, u14, u15, u16, u17, u18, u19, undef], defers := [] } ∧ i = k ∧ k ≤ s.size ∧ Hd (k + run p ((L s).drop k) = o + run p ((L s).drop o))) (fun a' _ => s.size - (intOf (a'.tmps.getD 1 undef)).toNat) rfl ?_ ?_
  · rintro a' w' ⟨rfl, k, i, u7, u8, u9, u10, u11, u12, u13, u14, u15, u16, u17, u18, u19, rfl, rfl, hk, hr⟩
    by_cases hlt : k < s.size
    · have E := hide (congrArg (run p) (L_drop s k hlt))
      cases hp : p s[k] with
      | true =>
        go_wp2_with (refine Calls.mono (unhide HF _ _) ?_; rintro e w1 ⟨rfl, rfl⟩)
        go_step3
        refine ⟨rfl, ⟨rfl, k + 1, _, _, _, _, _, _, _, _, _, _, _, _, _, _, rfl, by omega, by omega, ?_⟩, ?_⟩
        · have e := unhide E
          rw [run, if_pos hp] at e
          have := unhide hr
          show _ = _
          omega
        · simp [intOf]
          omega
      | false =>
        go_wp2_with (refine Calls.mono (unhide HF _ _) ?_; rintro e w1 ⟨rfl, rfl⟩)
        simp only [Exit.jump]
        go_ret
        refine ⟨ret_int ?_, rfl⟩
        have e := unhide E
        rw [run, hp, if_neg (by decide)] at e
        have := unhide hr
        omega
    · have E := hide (congrArg (run p) (L_end s k (by omega)))
      go_wp2
      simp only [Exit.jump]
      go_ret
      refine ⟨ret_int ?_, rfl⟩
      have e := unhide E
      rw [run] at e
      have := unhide hr
      omega
  · intro H
    refine wp_seq (wp_label ?_)
    exact H _ _ ⟨rfl, o, _, _, _, _, _, _, _, _, _, _, _, _, _, _, rfl, rfl, ho, rfl⟩

end Go.Proofs.YtlgdjeiendmniaaGreatDoor

namespace Go.Proofs.YtlgdjeiendmniaaGreatDoor
open Go.RowKit

theorem enterLine (v : Value) (W : World) : (callFunc 102 #[v]).run Tryz.prog W = .ok (.enter 102 #[v]) W := by kernel_rfl
theorem enterDigit (v : Value) (W : World) : (callFunc 103 #[v]).run Tryz.prog W = .ok (.enter 103 #[v]) W := by kernel_rfl
theorem enterName (v : Value) (W : World) : (callFunc 105 #[v]).run Tryz.prog W = .ok (.enter 105 #[v]) W := by kernel_rfl

theorem past_line (s : ByteArray) (o : Nat) (w : World) (ho : o ≤ s.size) (hs : s.size ≤ 140737488355328) :
    Calls Tryz.prog 101 #[.string s, .int .i64 o, fnV 102] w fun e w' => e = .returned (.int .i64 ((o + run ln ((L s).drop o) : Nat) : Int)) ∧ w' = w := past_any ln _ enterLine inLine_any s o w ho hs
theorem past_digit (s : ByteArray) (o : Nat) (w : World) (ho : o ≤ s.size) (hs : s.size ≤ 140737488355328) :
    Calls Tryz.prog 101 #[.string s, .int .i64 o, fnV 103] w fun e w' => e = .returned (.int .i64 ((o + run dg ((L s).drop o) : Nat) : Int)) ∧ w' = w := past_any dg _ enterDigit isDigit_any s o w ho hs
theorem past_name (s : ByteArray) (o : Nat) (w : World) (ho : o ≤ s.size) (hs : s.size ≤ 140737488355328) :
    Calls Tryz.prog 101 #[.string s, .int .i64 o, fnV 105] w fun e w' => e = .returned (.int .i64 ((o + run nm ((L s).drop o) : Nat) : Int)) ∧ w' = w := past_any nm _ enterName inName_any s o w ho hs

set_option maxHeartbeats 2000000 in
theorem begin_any (s : ByteArray) (o : Nat) (w : World) (ho : o ≤ s.size) (hs : s.size ≤ 140737488355328) :
    Calls Tryz.prog 73 #[.string s, .int .i64 o] w fun e w' => e = .returned (.int .i64 ((o + skp false ((L s).drop o) : Nat) : Int)) ∧ w' = w := by
  go_enter Tryz.func73, Tryz.ntmps73
  go_wp2
  refine wp_scope_loop 0 (fun a' w' => w' = w ∧ ∃ (k : Nat) (i : Int) (u5 u6 u7 u8 u9 u10 u11 u12 u13 u14 u15 u16 u17 u18 u19 u20 u21 u22 u23 u24 : Value), a' = { tmps := #[.string s, .int .i64 i, undef, undef, .int .i64 0, u5, u6, u7, u8, u9, u10, u11, u12, u13, u14, u15, u16, u17, u18, u19, u20, u21, u22, u23, u24, undef], defers := [] } ∧ i = k ∧ k ≤ s.size ∧ Hd (k + skp false ((L s).drop k) = o + skp false ((L s).drop o))) (fun a' _ => s.size - (intOf (a'.tmps.getD 1 undef)).toNat) rfl ?_ ?_
  · rintro a' w' ⟨rfl, k, i, u5, u6, u7, u8, u9, u10, u11, u12, u13, u14, u15, u16, u17, u18, u19, u20, u21, u22, u23, u24, rfl, rfl, hk, hr⟩
    by_cases hlt : k < s.size
    · have E := hide (congrArg (skp false) (L_drop s k hlt))
      have hend : ((k : Int) == (s.size : Int)) = false := by simp; omega
      by_cases hb : bl s[k] = true
      · have hb' := (bl_iff _).1 hb
        have HB := hide hb
        clear hb
        rcases (show ((s[k].toNat : Int) == 32) = true ∨ (((s[k].toNat : Int) == 32) = false ∧ ((s[k].toNat : Int) == 9) = true) ∨ (((s[k].toNat : Int) == 32) = false ∧ ((s[k].toNat : Int) == 9) = false ∧ ((s[k].toNat : Int) == 10) = true) ∨ (((s[k].toNat : Int) == 32) = false ∧ ((s[k].toNat : Int) == 9) = false ∧ ((s[k].toNat : Int) == 10) = false ∧ ((s[k].toNat : Int) == 13) = true) by simp; omega) with b1 | ⟨b1, b2⟩ | ⟨b1, b2, b3⟩ | ⟨b1, b2, b3, b4⟩
        all_goals
          clear hb'
          go_wp2
          go_step3
          refine ⟨rfl, ⟨rfl, k + 1, _, _, _, _, _, _, _, _, _, _, _, _, _, _, _, _, _, _, _, _, _, rfl, by omega, by omega, ?_⟩, ?_⟩
          · have e := unhide E
            rw [skp, if_pos (unhide HB)] at e
            have := unhide hr
            show _ = _
            omega
          · simp [intOf]
            omega
      · have hb' : ¬ _ := fun h => hb ((bl_iff _).2 h)
        have HB := hide hb
        clear hb
        have b1 : ((s[k].toNat : Int) == 32) = false := by simp; omega
        have b2 : ((s[k].toNat : Int) == 9) = false := by simp; omega
        have b3 : ((s[k].toNat : Int) == 10) = false := by simp; omega
        have b4 : ((s[k].toNat : Int) == 13) = false := by simp; omega
        by_cases h35 : s[k].toNat = 35
        · have b5 : ((s[k].toNat : Int) == 35) = true := by simp; omega
          have hln : ln s[k] = true := by rw [ln_iff]; omega
          have hpos : 1 ≤ run ln ((L s).drop k) := by rw [L_drop s k hlt]; exact run_pos hln
          have hle : run ln ((L s).drop k) ≤ s.size - k := by
            have := run_le ln ((L s).drop k)
            rw [List.length_drop, L_len] at this
            exact this
          have M : Hd (skp false ((L s).drop k) = run ln ((L s).drop k) + skp false ((L s).drop (k + run ln ((L s).drop k)))) := by
            have := skp_mark s[k] ((L s).drop (k + 1)) h35
            rw [← L_drop s k hlt, List.drop_drop] at this
            exact this
          obtain ⟨j, hj⟩ : ∃ j, j = run ln ((L s).drop k) := ⟨_, rfl⟩
          have HP := hide (past_line s k w' (by omega) hs)
          rw [← hj] at HP M hpos hle
          clear hb' h35 hln hj
          go_wp2_with (go_at_call 101; refine Calls.mono (unhide HP) ?_; rintro e w1 ⟨rfl, rfl⟩)
          go_step3
          refine ⟨rfl, ⟨rfl, k + j, _, _, _, _, _, _, _, _, _, _, _, _, _, _, _, _, _, _, _, _, _, rfl, by omega, by omega, ?_⟩, ?_⟩
          · have := unhide hr
            have := unhide M
            show _ = _
            omega
          · simp [intOf]
            omega
        · have b5 : ((s[k].toNat : Int) == 35) = false := by simp; omega
          clear hb'
          have N := hide h35
          clear h35
          go_wp2
          simp only [Exit.jump]
          go_ret
          refine ⟨ret_int ?_, rfl⟩
          have e := unhide E
          rw [skp, if_neg (unhide HB), if_neg (unhide N)] at e
          have := unhide hr
          omega
    · have E := hide (congrArg (skp false) (L_end s k (by omega)))
      have hend : ((k : Int) == (s.size : Int)) = true := by simp; omega
      go_wp2
      simp only [Exit.jump]
      go_ret
      refine ⟨ret_int ?_, rfl⟩
      have e := unhide E
      rw [skp] at e
      have := unhide hr
      omega
  · intro H
    refine wp_seq (wp_label ?_)
    exact H _ _ ⟨rfl, o, _, _, _, _, _, _, _, _, _, _, _, _, _, _, _, _, _, _, _, _, _, rfl, rfl, ho, rfl⟩

end Go.Proofs.YtlgdjeiendmniaaGreatDoor

namespace Go.Proofs.YtlgdjeiendmniaaGreatDoor
open Go.RowKit

theorem toL (s : ByteArray) : s.toList = L s := ByteArray.toList_eq s
/-- The words of the language. -/
def wordL (l : List UInt8) : Bool := l == [102, 110] || l == [108, 101, 116] || l == [105, 102] || l == [101, 108, 115, 101] || l == [119, 104, 105, 108, 101] || l == [98, 114, 101, 97, 107] || l == [99, 111, 110, 116, 105, 110, 117, 101] || l == [114, 101, 116, 117, 114, 110] || l == [112, 114, 105, 110, 116] || l == [110, 105, 108]
/-- The ops of two signs, of one. -/
def o2 (l : List UInt8) : Bool := l == [61, 61] || l == [33, 61] || l == [60, 61] || l == [62, 61] || l == [38, 38] || l == [124, 124]
def o1 (l : List UInt8) : Bool := l == [40] || l == [41] || l == [123] || l == [125] || l == [91] || l == [93] || l == [44] || l == [59] || l == [61] || l == [43] || l == [45] || l == [42] || l == [47] || l == [37] || l == [60] || l == [62] || l == [33]
/-- How long the op at the front is. -/
def opL (l : List UInt8) : Nat := if o2 (l.take 2) then 2 else if o1 (l.take 1) then 1 else 0

set_option maxHeartbeats 4000000 in
theorem isWord_any (s : ByteArray) (w : World) :
    Calls Tryz.prog 137 #[.string s] w fun e w' => e = .returned (.bool (wordL (L s))) ∧ w' = w := by
  have K : Hd (wordL (L s) = wordL s.toList) := by rw [toL]; exact rfl
  go_enter Tryz.func137, Tryz.ntmps137
  go_wp2
  all_goals
    go_ret
    refine ⟨ret_bool ?_, rfl⟩
    rw [unhide K]
    simp_all [wordL]

theorem o2_short (s : ByteArray) (h : s.size = 1) : o2 (s.extract 0 1).toList = false := by
  obtain ⟨x, hx⟩ : ∃ x, (s.extract 0 1).toList = [x] := by
    rw [toL, L_extract, List.drop_zero]
    have hl := L_len s
    match hL : L s with
    | [] => rw [hL] at hl; simp at hl; omega
    | x :: r => exact ⟨x, rfl⟩
  rw [hx]
  simp [o2]

set_option maxHeartbeats 8000000 in
theorem opLen_two (s : ByteArray) (w : World) (h1 : 2 ≤ s.size) (hs : s.size ≤ 140737488355328) :
    Calls Tryz.prog 140 #[.string s] w fun e w' => e = .returned (.int .i64 (opL (L s) : Nat)) ∧ w' = w := by
  have K : Hd (opL (L s) = if o2 (s.extract 0 2).toList then 2 else if o1 (s.extract 0 1).toList then 1 else 0) := by
    rw [toL, toL, L_extract, L_extract, List.drop_zero]; exact rfl
  rcases Bool.eq_false_or_eq_true ((s.extract 0 2).toList == [61, 61]) with p0 | p0
  · (go_enter Tryz.func140, Tryz.ntmps140; go_wp2; go_ret; refine ⟨ret_int ?_, rfl⟩; rw [unhide K]; simp_all [o2, o1])
  rcases Bool.eq_false_or_eq_true ((s.extract 0 2).toList == [33, 61]) with p1 | p1
  · (go_enter Tryz.func140, Tryz.ntmps140; go_wp2; go_ret; refine ⟨ret_int ?_, rfl⟩; rw [unhide K]; simp_all [o2, o1])
  rcases Bool.eq_false_or_eq_true ((s.extract 0 2).toList == [60, 61]) with p2 | p2
  · (go_enter Tryz.func140, Tryz.ntmps140; go_wp2; go_ret; refine ⟨ret_int ?_, rfl⟩; rw [unhide K]; simp_all [o2, o1])
  rcases Bool.eq_false_or_eq_true ((s.extract 0 2).toList == [62, 61]) with p3 | p3
  · (go_enter Tryz.func140, Tryz.ntmps140; go_wp2; go_ret; refine ⟨ret_int ?_, rfl⟩; rw [unhide K]; simp_all [o2, o1])
  rcases Bool.eq_false_or_eq_true ((s.extract 0 2).toList == [38, 38]) with p4 | p4
  · (go_enter Tryz.func140, Tryz.ntmps140; go_wp2; go_ret; refine ⟨ret_int ?_, rfl⟩; rw [unhide K]; simp_all [o2, o1])
  rcases Bool.eq_false_or_eq_true ((s.extract 0 2).toList == [124, 124]) with p5 | p5
  · (go_enter Tryz.func140, Tryz.ntmps140; go_wp2; go_ret; refine ⟨ret_int ?_, rfl⟩; rw [unhide K]; simp_all [o2, o1])
  rcases Bool.eq_false_or_eq_true ((s.extract 0 1).toList == [40]) with q0 | q0
  · (go_enter Tryz.func140, Tryz.ntmps140; go_wp2; go_ret; refine ⟨ret_int ?_, rfl⟩; rw [unhide K]; simp_all [o2, o1])
  rcases Bool.eq_false_or_eq_true ((s.extract 0 1).toList == [41]) with q1 | q1
  · (go_enter Tryz.func140, Tryz.ntmps140; go_wp2; go_ret; refine ⟨ret_int ?_, rfl⟩; rw [unhide K]; simp_all [o2, o1])
  rcases Bool.eq_false_or_eq_true ((s.extract 0 1).toList == [123]) with q2 | q2
  · (go_enter Tryz.func140, Tryz.ntmps140; go_wp2; go_ret; refine ⟨ret_int ?_, rfl⟩; rw [unhide K]; simp_all [o2, o1])
  rcases Bool.eq_false_or_eq_true ((s.extract 0 1).toList == [125]) with q3 | q3
  · (go_enter Tryz.func140, Tryz.ntmps140; go_wp2; go_ret; refine ⟨ret_int ?_, rfl⟩; rw [unhide K]; simp_all [o2, o1])
  rcases Bool.eq_false_or_eq_true ((s.extract 0 1).toList == [91]) with q4 | q4
  · (go_enter Tryz.func140, Tryz.ntmps140; go_wp2; go_ret; refine ⟨ret_int ?_, rfl⟩; rw [unhide K]; simp_all [o2, o1])
  rcases Bool.eq_false_or_eq_true ((s.extract 0 1).toList == [93]) with q5 | q5
  · (go_enter Tryz.func140, Tryz.ntmps140; go_wp2; go_ret; refine ⟨ret_int ?_, rfl⟩; rw [unhide K]; simp_all [o2, o1])
  rcases Bool.eq_false_or_eq_true ((s.extract 0 1).toList == [44]) with q6 | q6
  · (go_enter Tryz.func140, Tryz.ntmps140; go_wp2; go_ret; refine ⟨ret_int ?_, rfl⟩; rw [unhide K]; simp_all [o2, o1])
  rcases Bool.eq_false_or_eq_true ((s.extract 0 1).toList == [59]) with q7 | q7
  · (go_enter Tryz.func140, Tryz.ntmps140; go_wp2; go_ret; refine ⟨ret_int ?_, rfl⟩; rw [unhide K]; simp_all [o2, o1])
  rcases Bool.eq_false_or_eq_true ((s.extract 0 1).toList == [61]) with q8 | q8
  · (go_enter Tryz.func140, Tryz.ntmps140; go_wp2; go_ret; refine ⟨ret_int ?_, rfl⟩; rw [unhide K]; simp_all [o2, o1])
  rcases Bool.eq_false_or_eq_true ((s.extract 0 1).toList == [43]) with q9 | q9
  · (go_enter Tryz.func140, Tryz.ntmps140; go_wp2; go_ret; refine ⟨ret_int ?_, rfl⟩; rw [unhide K]; simp_all [o2, o1])
  rcases Bool.eq_false_or_eq_true ((s.extract 0 1).toList == [45]) with q10 | q10
  · (go_enter Tryz.func140, Tryz.ntmps140; go_wp2; go_ret; refine ⟨ret_int ?_, rfl⟩; rw [unhide K]; simp_all [o2, o1])
  rcases Bool.eq_false_or_eq_true ((s.extract 0 1).toList == [42]) with q11 | q11
  · (go_enter Tryz.func140, Tryz.ntmps140; go_wp2; go_ret; refine ⟨ret_int ?_, rfl⟩; rw [unhide K]; simp_all [o2, o1])
  rcases Bool.eq_false_or_eq_true ((s.extract 0 1).toList == [47]) with q12 | q12
  · (go_enter Tryz.func140, Tryz.ntmps140; go_wp2; go_ret; refine ⟨ret_int ?_, rfl⟩; rw [unhide K]; simp_all [o2, o1])
  rcases Bool.eq_false_or_eq_true ((s.extract 0 1).toList == [37]) with q13 | q13
  · (go_enter Tryz.func140, Tryz.ntmps140; go_wp2; go_ret; refine ⟨ret_int ?_, rfl⟩; rw [unhide K]; simp_all [o2, o1])
  rcases Bool.eq_false_or_eq_true ((s.extract 0 1).toList == [60]) with q14 | q14
  · (go_enter Tryz.func140, Tryz.ntmps140; go_wp2; go_ret; refine ⟨ret_int ?_, rfl⟩; rw [unhide K]; simp_all [o2, o1])
  rcases Bool.eq_false_or_eq_true ((s.extract 0 1).toList == [62]) with q15 | q15
  · (go_enter Tryz.func140, Tryz.ntmps140; go_wp2; go_ret; refine ⟨ret_int ?_, rfl⟩; rw [unhide K]; simp_all [o2, o1])
  rcases Bool.eq_false_or_eq_true ((s.extract 0 1).toList == [33]) with q16 | q16
  · (go_enter Tryz.func140, Tryz.ntmps140; go_wp2; go_ret; refine ⟨ret_int ?_, rfl⟩; rw [unhide K]; simp_all [o2, o1])
  go_enter Tryz.func140, Tryz.ntmps140
  go_wp2
  go_ret
  refine ⟨ret_int ?_, rfl⟩
  rw [unhide K]
  simp_all [o2, o1]

set_option maxHeartbeats 8000000 in
theorem opLen_one (s : ByteArray) (w : World) (h1 : s.size = 1) :
    Calls Tryz.prog 140 #[.string s] w fun e w' => e = .returned (.int .i64 (opL (L s) : Nat)) ∧ w' = w := by
  have K : Hd (opL (L s) = if o2 (s.extract 0 1).toList then 2 else if o1 (s.extract 0 1).toList then 1 else 0) := by
    have e2 : (L s).take 2 = (L s).take 1 := by rw [List.take_of_length_le (by rw [L_len]; omega), List.take_of_length_le (by rw [L_len]; omega)]
    rw [toL, L_extract, List.drop_zero]
    show (if o2 ((L s).take 2) = true then 2 else _) = _
    rw [e2]
  have hq := o2_short s h1
  have p0 : ((s.extract 0 1).toList == [61, 61]) = false := by simp [o2] at hq; simp [hq]
  have p1 : ((s.extract 0 1).toList == [33, 61]) = false := by simp [o2] at hq; simp [hq]
  have p2 : ((s.extract 0 1).toList == [60, 61]) = false := by simp [o2] at hq; simp [hq]
  have p3 : ((s.extract 0 1).toList == [62, 61]) = false := by simp [o2] at hq; simp [hq]
  have p4 : ((s.extract 0 1).toList == [38, 38]) = false := by simp [o2] at hq; simp [hq]
  have p5 : ((s.extract 0 1).toList == [124, 124]) = false := by simp [o2] at hq; simp [hq]
  clear hq
  rcases Bool.eq_false_or_eq_true ((s.extract 0 1).toList == [40]) with q0 | q0
  · (go_enter Tryz.func140, Tryz.ntmps140; go_wp2; go_ret; refine ⟨ret_int ?_, rfl⟩; rw [unhide K]; simp_all [o2, o1])
  rcases Bool.eq_false_or_eq_true ((s.extract 0 1).toList == [41]) with q1 | q1
  · (go_enter Tryz.func140, Tryz.ntmps140; go_wp2; go_ret; refine ⟨ret_int ?_, rfl⟩; rw [unhide K]; simp_all [o2, o1])
  rcases Bool.eq_false_or_eq_true ((s.extract 0 1).toList == [123]) with q2 | q2
  · (go_enter Tryz.func140, Tryz.ntmps140; go_wp2; go_ret; refine ⟨ret_int ?_, rfl⟩; rw [unhide K]; simp_all [o2, o1])
  rcases Bool.eq_false_or_eq_true ((s.extract 0 1).toList == [125]) with q3 | q3
  · (go_enter Tryz.func140, Tryz.ntmps140; go_wp2; go_ret; refine ⟨ret_int ?_, rfl⟩; rw [unhide K]; simp_all [o2, o1])
  rcases Bool.eq_false_or_eq_true ((s.extract 0 1).toList == [91]) with q4 | q4
  · (go_enter Tryz.func140, Tryz.ntmps140; go_wp2; go_ret; refine ⟨ret_int ?_, rfl⟩; rw [unhide K]; simp_all [o2, o1])
  rcases Bool.eq_false_or_eq_true ((s.extract 0 1).toList == [93]) with q5 | q5
  · (go_enter Tryz.func140, Tryz.ntmps140; go_wp2; go_ret; refine ⟨ret_int ?_, rfl⟩; rw [unhide K]; simp_all [o2, o1])
  rcases Bool.eq_false_or_eq_true ((s.extract 0 1).toList == [44]) with q6 | q6
  · (go_enter Tryz.func140, Tryz.ntmps140; go_wp2; go_ret; refine ⟨ret_int ?_, rfl⟩; rw [unhide K]; simp_all [o2, o1])
  rcases Bool.eq_false_or_eq_true ((s.extract 0 1).toList == [59]) with q7 | q7
  · (go_enter Tryz.func140, Tryz.ntmps140; go_wp2; go_ret; refine ⟨ret_int ?_, rfl⟩; rw [unhide K]; simp_all [o2, o1])
  rcases Bool.eq_false_or_eq_true ((s.extract 0 1).toList == [61]) with q8 | q8
  · (go_enter Tryz.func140, Tryz.ntmps140; go_wp2; go_ret; refine ⟨ret_int ?_, rfl⟩; rw [unhide K]; simp_all [o2, o1])
  rcases Bool.eq_false_or_eq_true ((s.extract 0 1).toList == [43]) with q9 | q9
  · (go_enter Tryz.func140, Tryz.ntmps140; go_wp2; go_ret; refine ⟨ret_int ?_, rfl⟩; rw [unhide K]; simp_all [o2, o1])
  rcases Bool.eq_false_or_eq_true ((s.extract 0 1).toList == [45]) with q10 | q10
  · (go_enter Tryz.func140, Tryz.ntmps140; go_wp2; go_ret; refine ⟨ret_int ?_, rfl⟩; rw [unhide K]; simp_all [o2, o1])
  rcases Bool.eq_false_or_eq_true ((s.extract 0 1).toList == [42]) with q11 | q11
  · (go_enter Tryz.func140, Tryz.ntmps140; go_wp2; go_ret; refine ⟨ret_int ?_, rfl⟩; rw [unhide K]; simp_all [o2, o1])
  rcases Bool.eq_false_or_eq_true ((s.extract 0 1).toList == [47]) with q12 | q12
  · (go_enter Tryz.func140, Tryz.ntmps140; go_wp2; go_ret; refine ⟨ret_int ?_, rfl⟩; rw [unhide K]; simp_all [o2, o1])
  rcases Bool.eq_false_or_eq_true ((s.extract 0 1).toList == [37]) with q13 | q13
  · (go_enter Tryz.func140, Tryz.ntmps140; go_wp2; go_ret; refine ⟨ret_int ?_, rfl⟩; rw [unhide K]; simp_all [o2, o1])
  rcases Bool.eq_false_or_eq_true ((s.extract 0 1).toList == [60]) with q14 | q14
  · (go_enter Tryz.func140, Tryz.ntmps140; go_wp2; go_ret; refine ⟨ret_int ?_, rfl⟩; rw [unhide K]; simp_all [o2, o1])
  rcases Bool.eq_false_or_eq_true ((s.extract 0 1).toList == [62]) with q15 | q15
  · (go_enter Tryz.func140, Tryz.ntmps140; go_wp2; go_ret; refine ⟨ret_int ?_, rfl⟩; rw [unhide K]; simp_all [o2, o1])
  rcases Bool.eq_false_or_eq_true ((s.extract 0 1).toList == [33]) with q16 | q16
  · (go_enter Tryz.func140, Tryz.ntmps140; go_wp2; go_ret; refine ⟨ret_int ?_, rfl⟩; rw [unhide K]; simp_all [o2, o1])
  go_enter Tryz.func140, Tryz.ntmps140
  go_wp2
  go_ret
  refine ⟨ret_int ?_, rfl⟩
  rw [unhide K]
  simp_all [o2, o1]

theorem opLen_any (s : ByteArray) (w : World) (h1 : 1 ≤ s.size) (hs : s.size ≤ 140737488355328) :
    Calls Tryz.prog 140 #[.string s] w fun e w' => e = .returned (.int .i64 (opL (L s) : Nat)) ∧ w' = w := by
  by_cases h : s.size = 1
  · exact opLen_one s w h
  · exact opLen_two s w (by omega) hs

/-- The byte that the front of a text between quotes tells, and how many bytes tell it. -/
def sg : List UInt8 → UInt8 × Nat
  | [] => (0, 0)
  | [c] => if c.toNat = 92 then (0, 0) else (c, 1)
  | c :: d :: _ => if c.toNat = 92 then (if d.toNat = 34 ∨ d.toNat = 92 then (d, 2) else if d.toNat = 110 then (10, 2) else (0, 0)) else (c, 1)

theorem ret_un {a b c d : Int} (h : a = c) (k : b = d) : Ending.returned (.tuple #[.int .u8 a, .int .i64 b]) = .returned (.tuple #[.int .u8 c, .int .i64 d]) := by rw [h, k]

set_option maxHeartbeats 2000000 in
theorem sign_any (s : ByteArray) (w : World) (h1 : 1 ≤ s.size) (hs : s.size ≤ 140737488355328) :
    Calls Tryz.prog 139 #[.string s] w fun e w' => e = .returned (.tuple #[.int .u8 (sg (L s)).1.toNat, .int .i64 (sg (L s)).2]) ∧ w' = w := by
  have hL0 := L_drop s 0 (by omega)
  rw [List.drop_zero] at hL0
  by_cases hc : s[0].toNat = 92
  · have n0 : ((s[0].toNat : Int) != 92) = false := by simp; omega
    by_cases h2 : s.size = 1
    · have K : Hd (sg (L s) = (0, 0)) := by
        rw [hL0, L_end s 1 (by omega)]
        show sg [_] = _
        rw [sg, if_pos hc]
      clear hL0 hc
      go_enter Tryz.func139, Tryz.ntmps139
      go_wp2
      go_ret2
      rw [unhide K]
      exact ⟨rfl, rfl⟩
    · have hL1 := L_drop s 1 (by omega)
      have e1 : ((s.size : Int) == 1) = false := by simp; omega
      have hlt : 1 < s.size := by omega
      have K : Hd (sg (L s) = if s[1].toNat = 34 ∨ s[1].toNat = 92 then (s[1], 2) else if s[1].toNat = 110 then (10, 2) else (0, 0)) := by
        rw [hL0, show 0 + 1 = 1 from rfl, hL1]
        show sg (_ :: _ :: _) = _
        rw [sg, if_pos hc]
      clear hL0 hL1 hc
      by_cases d1 : s[1].toNat = 34
      · have b1 : ((s[1].toNat : Int) == 34) = true := by simp; omega
        have D := hide d1
        clear d1
        go_enter Tryz.func139, Tryz.ntmps139
        go_wp2
        go_ret2
        rw [unhide K, if_pos (Or.inl (unhide D))]
        exact ⟨rfl, rfl⟩
      · have b1 : ((s[1].toNat : Int) == 34) = false := by simp; omega
        by_cases d2 : s[1].toNat = 92
        · have b2 : ((s[1].toNat : Int) == 92) = true := by simp; omega
          have D := hide d2
          clear d1 d2
          go_enter Tryz.func139, Tryz.ntmps139
          go_wp2
          go_ret2
          rw [unhide K, if_pos (Or.inr (unhide D))]
          exact ⟨rfl, rfl⟩
        · have b2 : ((s[1].toNat : Int) == 92) = false := by simp; omega
          by_cases d3 : s[1].toNat = 110
          · have b3 : ((s[1].toNat : Int) == 110) = true := by simp; omega
            have K' : Hd (sg (L s) = (10, 2)) := by
              have := unhide K
              rw [if_neg (by omega), if_pos d3] at this
              exact this
            clear d1 d2 d3 K
            go_enter Tryz.func139, Tryz.ntmps139
            go_wp2
            go_ret2
            rw [unhide K']
            exact ⟨rfl, rfl⟩
          · have b3 : ((s[1].toNat : Int) == 110) = false := by simp; omega
            have K' : Hd (sg (L s) = (0, 0)) := by
              have := unhide K
              rw [if_neg (by omega), if_neg d3] at this
              exact this
            clear d1 d2 d3 K
            go_enter Tryz.func139, Tryz.ntmps139
            go_wp2
            go_ret2
            rw [unhide K']
            exact ⟨rfl, rfl⟩
  · have n0 : ((s[0].toNat : Int) != 92) = true := by simp; omega
    have K : Hd (sg (L s) = (s[0], 1)) := by
      rw [hL0]
      cases (L s).drop (0 + 1) with
      | nil => show sg [_] = _; rw [sg, if_neg hc]
      | cons d r => show sg (_ :: _ :: _) = _; rw [sg, if_neg hc]
    clear hL0 hc
    go_enter Tryz.func139, Tryz.ntmps139
    go_wp2
    go_ret2
    rw [unhide K]
    exact ⟨rfl, rfl⟩

end Go.Proofs.YtlgdjeiendmniaaGreatDoor
