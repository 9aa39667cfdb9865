/- Words as plain lists of bytes: which bytes stand together, what is skipped ahead of a word, what digits spell. -/
import Derived.Lib.ParseIntB
import Derived.Laws.Strings
set_option linter.unusedSimpArgs false
namespace Go.Proofs.YtbncceknldjbjaaDoor

/-- A hypothesis that the walk shall not take for a rule. -/
def Hd (p : Prop) : Prop := p
theorem hide {p : Prop} (h : p) : Hd p := h
theorem unhide {p : Prop} (h : Hd p) : p := h

/-- A text's bytes. -/
def L (s : ByteArray) : List UInt8 := s.data.toList
theorem L_len (s : ByteArray) : (L s).length = s.size := by simp [L]
theorem L_mk (l : List UInt8) : L ⟨l.toArray⟩ = l := rfl
theorem mk_L (s : ByteArray) : (⟨(L s).toArray⟩ : ByteArray) = s := by
  apply ByteArray.ext; simp [L]
theorem L_inj {s t : ByteArray} (h : L s = L t) : s = t := by rw [← mk_L s, ← mk_L t, h]
theorem L_drop (s : ByteArray) (k : Nat) (h : k < s.size) : (L s).drop k = s[k] :: (L s).drop (k + 1) := by
  rw [List.drop_eq_getElem_cons (by rw [L_len]; exact h)]; rfl
theorem L_end (s : ByteArray) (k : Nat) (h : s.size ≤ k) : (L s).drop k = [] := List.drop_of_length_le (by rw [L_len]; exact h)
theorem L_get (s : ByteArray) (k : Nat) (h : k < s.size) : (L s)[k]? = some s[k] := by
  rw [List.getElem?_eq_getElem (by rw [L_len]; exact h)]; rfl
theorem L_extract (s : ByteArray) (a b : Nat) : L (s.extract a b) = ((L s).drop a).take (b - a) := by
  simp only [L, ByteArray.data_extract, Array.toList_extract, List.extract_eq_take_drop]
theorem L_append (s t : ByteArray) : L (s ++ t) = L s ++ L t := by
  simp only [L, ByteArray.data_append, Array.toList_append]

/-- The sorts of bytes. -/
def dg (c : UInt8) : Bool := decide (48 ≤ c.toNat) && decide (c.toNat ≤ 57)
def nm (c : UInt8) : Bool := decide (97 ≤ c.toNat) && decide (c.toNat ≤ 122) || (decide (65 ≤ c.toNat) && decide (c.toNat ≤ 90) || (c.toNat == 95 || dg c))
def ln (c : UInt8) : Bool := c.toNat != 10
def bl (c : UInt8) : Bool := c.toNat == 32 || (c.toNat == 9 || (c.toNat == 10 || c.toNat == 13))

theorem dg_iff (c : UInt8) : dg c = true ↔ 48 ≤ c.toNat ∧ c.toNat ≤ 57 := by simp [dg]
theorem nm_iff (c : UInt8) : nm c = true ↔ (97 ≤ c.toNat ∧ c.toNat ≤ 122) ∨ (65 ≤ c.toNat ∧ c.toNat ≤ 90) ∨ c.toNat = 95 ∨ (48 ≤ c.toNat ∧ c.toNat ≤ 57) := by simp [nm, dg]
theorem ln_iff (c : UInt8) : ln c = true ↔ c.toNat ≠ 10 := by simp [ln]
theorem bl_iff (c : UInt8) : bl c = true ↔ c.toNat = 32 ∨ c.toNat = 9 ∨ c.toNat = 10 ∨ c.toNat = 13 := by simp [bl]

/-- How many bytes at the front are of a sort. -/
def run (p : UInt8 → Bool) : List UInt8 → Nat
  | [] => 0
  | c :: r => if p c then 1 + run p r else 0

theorem run_le (p : UInt8 → Bool) : ∀ l, run p l ≤ l.length
  | [] => Nat.le_refl _
  | c :: r => by
    have := run_le p r
    rw [run]
    split
    · simp only [List.length_cons]; omega
    · exact Nat.zero_le _

theorem run_all {p : UInt8 → Bool} : ∀ (l t : List UInt8), (∀ c ∈ l, p c = true) → (∀ c ∈ t.head?, p c = false) → run p (l ++ t) = l.length
  | [], [], _, _ => rfl
  | [], c :: t, _, h => by
    have h' : p c = false := h c rfl
    simp [run, h']
  | c :: r, t, h, k => by
    have h' := h c (by simp)
    rw [List.cons_append, run, if_pos h', run_all r t (fun x hx => h x (by simp [hx])) k, List.length_cons, Nat.add_comm]

theorem run_take {p : UInt8 → Bool} : ∀ (l : List UInt8), ∀ c ∈ l.take (run p l), p c = true
  | [], c, h => by simp at h
  | x :: r, c, h => by
    rw [run] at h
    split at h
    · rename_i hx
      rw [Nat.add_comm, List.take_succ_cons] at h
      rcases List.mem_cons.1 h with rfl | h
      · exact hx
      · exact run_take r c h
    · simp at h

theorem run_next {p : UInt8 → Bool} : ∀ (l : List UInt8) (c : UInt8), l[run p l]? = some c → p c = false
  | [], c, h => by simp at h
  | x :: r, c, h => by
    rw [run] at h
    split at h
    · rw [Nat.add_comm, List.getElem?_cons_succ] at h
      exact run_next r c h
    · rename_i hx
      simp only [List.getElem?_cons_zero, Option.some.injEq] at h
      subst h
      simpa using hx

theorem run_pos {p : UInt8 → Bool} {c : UInt8} {r : List UInt8} (h : p c = true) : 1 ≤ run p (c :: r) := by rw [run, if_pos h]; omega

/-- How many bytes are skipped ahead of a word; first: behind a mark of a remark. -/
def skp : Bool → List UInt8 → Nat
  | _, [] => 0
  | true, c :: r => if c.toNat = 10 then 1 + skp false r else 1 + skp true r
  | false, c :: r => if bl c then 1 + skp false r else if c.toNat = 35 then 1 + skp true r else 0

theorem skp_le : ∀ (l : List UInt8) (b : Bool), skp b l ≤ l.length
  | [], b => by cases b <;> exact Nat.le_refl _
  | c :: r, b => by
    have h1 := skp_le r true
    have h2 := skp_le r false
    cases b <;> rw [skp]
    · split
      · simp only [List.length_cons]; omega
      · split
        · simp only [List.length_cons]; omega
        · omega
    · split <;> simp only [List.length_cons] <;> omega

theorem skp_true : ∀ l, skp true l = run ln l + skp false (l.drop (run ln l))
  | [] => rfl
  | c :: r => by
    rw [skp, run]
    by_cases h : c.toNat = 10
    · have hb : bl c = true := by rw [bl_iff]; omega
      have hl : ln c = false := by simp [ln, h]
      rw [if_pos h, hl, if_neg (by decide), List.drop_zero, skp, if_pos hb]
      omega
    · have hl : ln c = true := by rw [ln_iff]; exact h
      rw [if_neg h, if_pos hl, Nat.add_comm 1 (run ln r), List.drop_succ_cons, skp_true r]
      omega

theorem skp_mark (c : UInt8) (r : List UInt8) (h : c.toNat = 35) : skp false (c :: r) = run ln (c :: r) + skp false ((c :: r).drop (run ln (c :: r))) := by
  have hl : ln c = true := by rw [ln_iff]; omega
  have hb : bl c = false := by
    rw [← Bool.not_eq_true, bl_iff]; omega
  rw [skp, hb, if_neg (by decide), if_pos h, skp_true r, run, if_pos hl, Nat.add_comm 1 (run ln r), List.drop_succ_cons]
  omega

/-- What digits spell. -/
def dv (a : Nat) (l : List UInt8) : Nat := l.foldl (fun x c => x * 10 + (c.toNat - 48)) a
theorem dv_nil (a : Nat) : dv a [] = a := rfl
theorem dv_cons (a : Nat) (c : UInt8) (r : List UInt8) : dv a (c :: r) = dv (a * 10 + (c.toNat - 48)) r := by unfold dv; rw [List.foldl_cons]
theorem dv_snoc (a : Nat) (c : UInt8) (r : List UInt8) : dv a (r ++ [c]) = dv a r * 10 + (c.toNat - 48) := by simp [dv]

theorem dv_ge (l : List UInt8) : ∀ a, a ≤ dv a l := by
  induction l with
  | nil => intro a; rw [dv_nil]; exact Nat.le_refl _
  | cons c r ih =>
    intro a
    have := ih (a * 10 + (c.toNat - 48))
    rw [dv_cons]
    omega

theorem parseM (M : Nat) (hM : M = 18446744073709551615) (l : List UInt8) : ∀ a, (∀ c ∈ l, dg c = true) → a ≤ M →
    Lib.parseUintM M a l = if dv a l ≤ M then .ok (dv a l) else .range := by
  induction l with
  | nil => intro a _ ha; rw [Lib.parseUintM, dv_nil, if_pos ha]
  | cons c r ih =>
    intro a h ha
    have hc := (dg_iff c).1 (h c (by simp))
    have hg := dv_ge r (a * 10 + (c.toNat - 48))
    rw [Lib.parseUintM, if_pos hc, dv_cons]
    by_cases h1 : 1844674407370955162 ≤ a
    · rw [if_pos h1, if_neg (by omega)]
    · rw [if_neg h1]
      by_cases h2 : M < a * 10 + (c.toNat - 48)
      · rw [if_pos h2, if_neg (by omega)]
      · rw [if_neg h2]
        exact ih _ (fun x hx => h x (by simp [hx])) (by omega)

theorem parse_digits (l : List UInt8) (hne : l ≠ []) (h : ∀ c ∈ l, dg c = true) :
    Lib.parseIntB 64 l = if dv 0 l ≤ 9223372036854775807 then .ok (dv 0 l : Int) else .range := by
  cases l with
  | nil => exact absurd rfl hne
  | cons c r =>
    have hc := (dg_iff c).1 (h c (by simp))
    have hs : ¬ (c.toNat = 43 ∨ c.toNat = 45) := by omega
    have h45 : ¬ c.toNat = 45 := by omega
    have e := parseM (2 ^ 64 - 1) rfl (c :: r) 0 h (by omega)
    unfold Lib.parseIntB Lib.parseUintB
    simp only [if_neg hs, if_neg hne]
    rw [e]
    by_cases h1 : dv 0 (c :: r) ≤ 2 ^ 64 - 1
    · rw [if_pos h1]
      by_cases h2 : dv 0 (c :: r) ≤ 9223372036854775807
      · simp only [h45, not_false_eq_true, true_and, false_and, if_false]
        rw [if_neg (by omega), if_pos h2]
      · simp only [h45, not_false_eq_true, true_and, false_and, if_false]
        rw [if_pos (by omega), if_neg h2]
    · rw [if_neg h1, if_neg (by omega)]

end Go.Proofs.YtbncceknldjbjaaDoor
