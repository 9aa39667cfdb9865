/- What the digits' calls give: a word's sixteen digits, a word read from sixteen bytes, a number's text and the number of a text. -/
import Derived.Test.YtmcmfgihdhfcdaaDoorLaw
import Derived.Test.YtmcmfgihdhfcdaaDoorHex
set_option linter.unusedSimpArgs false
namespace Go.Proofs.YtmcmfgihdhfcdaaDoor
open Go.RowKit

theorem tab_cut : ∀ d, d < 16 → ({ data := #[48, 49, 50, 51, 52, 53, 54, 55, 56, 57, 97, 98, 99, 100, 101, 102] } : ByteArray).extract d (d + 1) = ⟨#[hexD d]⟩ := by decide

theorem and15 (m : Nat) (h : m < 18446744073709551616) : bits .and .u64 (m : Int) 15 = ((m % 16 : Nat) : Int) := by
  have := u64_and_nat m 15 h (by decide)
  rw [Nat.and_two_pow_sub_one_eq_mod m 4] at this
  exact this

theorem ret_str {a b : ByteArray} (h : a = b) : Ending.returned (.string a) = .returned (.string b) := by rw [h]
theorem ret_ub {a b : Int} {p q : Bool} (h : a = b) (k : p = q) : Ending.returned (.tuple #[.int .u64 a, .bool p]) = .returned (.tuple #[.int .u64 b, .bool q]) := by rw [h, k]
theorem str_eq {a b : ByteArray} (h : a = b) : Value.string a = .string b := by rw [h]

theorem hex_cons (n k d : Nat) (h : d = n / 16 ^ k % 16) : ({ data := #[hexD d] } : ByteArray) ++ { data := (hx k n).toArray } = { data := (hx (k + 1) n).toArray } := by
  apply ByteArray.ext
  rw [ByteArray.data_append]
  simp [hx, h]

/-- A word's sixteen digits, and a number's text. -/
def H (n : Nat) : ByteArray := ⟨(hx 16 n).toArray⟩
def txt (a b : Nat) : ByteArray := ((((({ data := #[60] } : ByteArray) ++ H a) ++ { data := #[44] }) ++ H b) ++ { data := #[62] })

theorem H_size (n : Nat) : (H n).size = 16 := by
  show (hx 16 n).toArray.size = 16
  simp [hx_length]

theorem digitOf_any (c : UInt8) (w : World) :
    Calls Tryd.prog 68 #[.int .u8 c.toNat] w fun e w' => e = .returned (.tuple #[.int .u64 ((digV c).getD 0 : Nat), .bool (digV c).isSome]) ∧ w' = w := by
  have h := c.toNat_lt
  have hd : digV c = if 48 ≤ c.toNat ∧ c.toNat ≤ 57 then some (c.toNat - 48) else if 97 ≤ c.toNat ∧ c.toNat ≤ 102 then some (c.toNat - 87) else none := rfl
  have K := hide hd
  clear hd
  rcases (show c.toNat < 48 ∨ (48 ≤ c.toNat ∧ c.toNat ≤ 57) ∨ (57 < c.toNat ∧ c.toNat < 97) ∨ (97 ≤ c.toNat ∧ c.toNat ≤ 102) ∨ 102 < c.toNat by omega) with h1 | ⟨h1, h2⟩ | ⟨h1, h2⟩ | ⟨h1, h2⟩ | h1
  · go_enter Tryd.func68, Tryd.ntmps68
    go_wp2
    go_ret2
    have e : digV c = none := by rw [unhide K, if_neg (by omega), if_neg (by omega)]
    exact ⟨ret_ub (by rw [e]; rfl) (by rw [e]; rfl), rfl⟩
  · go_enter Tryd.func68, Tryd.ntmps68
    go_wp2
    go_ret2
    have e : digV c = some (c.toNat - 48) := by rw [unhide K, if_pos (by omega)]
    exact ⟨ret_ub (by rw [e]; simp only [Option.getD_some]; omega) (by rw [e]; rfl), rfl⟩
  · go_enter Tryd.func68, Tryd.ntmps68
    go_wp2
    go_ret2
    have e : digV c = none := by rw [unhide K, if_neg (by omega), if_neg (by omega)]
    exact ⟨ret_ub (by rw [e]; rfl) (by rw [e]; rfl), rfl⟩
  · go_enter Tryd.func68, Tryd.ntmps68
    go_wp2
    go_ret2
    have e : digV c = some (c.toNat - 87) := by rw [unhide K, if_neg (by omega), if_pos (by omega)]
    exact ⟨ret_ub (by rw [e]; simp only [Option.getD_some]; omega) (by rw [e]; rfl), rfl⟩
  · go_enter Tryd.func68, Tryd.ntmps68
    go_wp2
    go_ret2
    have e : digV c = none := by rw [unhide K, if_neg (by omega), if_neg (by omega)]
    exact ⟨ret_ub (by rw [e]; rfl) (by rw [e]; rfl), rfl⟩

theorem take_snoc (s : ByteArray) (k : Nat) (h : k < s.size) : s.data.toList.take (k + 1) = s.data.toList.take k ++ [s[k]] := by
  rw [List.take_succ_eq_append_getElem (by simpa using h)]; rfl

theorem rd_bound {l : List UInt8} {acc k : Nat} (h : rdL 0 (l.take k) = some acc) (hk : k ≤ 15) : acc < 1152921504606846976 := by
  obtain ⟨low, hl, hv⟩ := rd_val h
  have h2 : 16 ^ (l.take k).length ≤ 16 ^ 15 := Nat.pow_le_pow_right (by decide) (by rw [List.length_take]; omega)
  have h3 : (16 : Nat) ^ 15 = 1152921504606846976 := rfl
  omega

theorem or_digit (n d : Nat) (h : n < 1152921504606846976) (hd : d < 16) : bits .or .u64 ((n : Int) * 16) (d : Int) = ((n * 16 + d : Nat) : Int) := by
  have h1 := u64_or_nat (n * 16) d (by omega) (by omega)
  have h2 := Nat.two_pow_add_eq_or_of_lt (i := 4) (b := d) hd n
  rw [Nat.mul_comm] at h2
  rw [show ((n : Int) * 16) = ((n * 16 : Nat) : Int) by omega, h1]
  exact congrArg Int.ofNat h2.symm

/-- A word read from a text of digits. -/
def rdS (s : ByteArray) : Option Nat := rdL 0 s.data.toList

set_option maxHeartbeats 400000 in
theorem readDigits_any (s : ByteArray) (w : World) (hs : s.size ≤ 16) :
    Calls Tryd.prog 58 #[.string s] w fun e w' => e = .returned (.tuple #[.int .u64 ((rdS s).getD 0 : Nat), .bool (rdS s).isSome]) ∧ w' = w := by
  go_enter Tryd.func58, Tryd.ntmps58
  go_wp2
  go_loop [4, 10] (fun v i => ∃ k acc : Nat, k ≤ s.size ∧ i = .int .i64 k ∧ v = .int .u64 (acc : Int) ∧ Hd (rdL 0 (s.data.toList.take k) = some acc)) (fun _ i => s.size - (intOf i).toNat)
  case atStart => exact ⟨0, 0, Nat.zero_le _, rfl, rfl, rfl⟩
  case round =>
    obtain ⟨k, acc, hk, rfl, rfl, hm⟩ := hrel
    by_cases hlt : k < s.size
    · have hb := rd_bound (unhide hm) (by omega)
      obtain ⟨c, hc⟩ : ∃ c, c = s[k] := ⟨_, rfl⟩
      have hsn : rdL 0 (s.data.toList.take (k + 1)) = (digV c).bind fun d => some (acc * 16 + d) := by
        rw [take_snoc s k hlt, rd_snoc, unhide hm, Option.bind_some, hc]
      have S := hide hsn
      clear hsn
      cases hv : digV c with
      | none =>
        rw [hc] at hv
        go_wp2_with (go_at_call 68; refine (digitOf_any _ _).mono ?_; rintro e w' ⟨rfl, rfl⟩)
        go_ret2
        have e : rdS s = none := by
          refine rd_none_take (k := k + 1) ?_
          have := unhide S
          rw [hc, hv] at this; exact this
        exact ⟨ret_ub (by rw [e]; rfl) (by rw [e]; rfl), rfl⟩
      | some d =>
        have hd16 := (digV_some hv).1
        have ho := or_digit acc d hb hd16
        rw [hc] at hv
        go_wp2_with (go_at_call 68; refine (digitOf_any _ _).mono ?_; rintro e w' ⟨rfl, rfl⟩)
        go_round
        case rel =>
          refine ⟨k + 1, acc * 16 + d, by omega, by go_num, by go_num, ?_⟩
          have := unhide S
          rw [hc, hv] at this
          exact this
        case measure => simp [intOf]; omega
    · have hk' : k = s.size := by omega
      have e : rdS s = some acc := by
        have := unhide hm
        rw [List.take_of_length_le (by rw [hk']; exact Nat.le_refl _)] at this
        exact this
      have E := hide e
      clear e hk'
      go_wp2
      go_ret2
      exact ⟨ret_ub (by rw [unhide E]; rfl) (by rw [unhide E]; rfl), rfl⟩

theorem ret_cb {a b c d : Nat} {p q : Bool} (h1 : a = b) (h2 : c = d) (h3 : p = q) : Ending.returned (.tuple #[.complex .f64 a c, .bool p]) = .returned (.tuple #[.complex .f64 b d, .bool q]) := by rw [h1, h2, h3]

theorem fromBits_any (a b : Nat) (w : World) (ha : Wd a) (hb : Wd b) :
    Calls Tryd.prog 59 #[.int .u64 a, .int .u64 b] w fun e w' => e = .returned (.tuple #[.complex .f64 (if okB a b then a else 0) (if okB a b then b else 0), .bool (okB a b)]) ∧ w' = w := by
  cases h : okB a b
  all_goals
    go_enter Tryd.func59, Tryd.ntmps59
    go_wp2_with (go_at_call 26; refine (ok_any _ _ _ ?_ ?_).mono ?_; assumption; assumption; rintro e w' ⟨rfl, rfl⟩)
    go_ret2
    exact ⟨rfl, rfl⟩

theorem bitsOf_any (a b : Nat) (w : World) (ha : Wd a) (hb : Wd b) :
    Calls Tryd.prog 51 #[.complex .f64 a b] w fun e w' => e = .returned (.tuple #[.int .u64 (cl1 a b : Nat), .int .u64 (cl2 a b : Nat)]) ∧ w' = w := by
  go_enter Tryd.func51, Tryd.ntmps51
  go_wp2_with (go_at_call 53; refine (sound_any _ _ _ ?_ ?_).mono ?_; assumption; assumption; rintro e w' ⟨rfl, rfl⟩)
  go_ret2
  exact ⟨rfl, rfl⟩

/-- The number of a text. -/
def marks (s : ByteArray) : Bool := s.size == 35 && s.data[0]? == some 60 && s.data[17]? == some 44 && s.data[34]? == some 62
def pr (s : ByteArray) : Option (Nat × Nat) :=
  if marks s then (rdS (s.extract 1 17)).bind fun a => (rdS (s.extract 18 34)).bind fun b => if okB a b then some (a, b) else none else none

theorem rd_wd {l : List UInt8} {v : Nat} (h : rdL 0 l = some v) (hl : l.length ≤ 16) : Wd v := by
  obtain ⟨low, h1, h2⟩ := rd_val h
  have h3 : 16 ^ l.length ≤ 16 ^ 16 := Nat.pow_le_pow_right (by decide) hl
  have h4 : (16 : Nat) ^ 16 = 18446744073709551616 := rfl
  unfold Wd
  omega

theorem parse_short (s : ByteArray) (w : World) (h : s.size ≠ 35) :
    Calls Tryd.prog 44 #[.string s] w fun e w' => e = .returned (.tuple #[.complex .f64 0 0, .bool false]) ∧ w' = w := by
  have h' : ((s.size : Int) != 35) = true := by simp; omega
  go_enter Tryd.func44, Tryd.ntmps44
  go_wp2
  go_ret2
  exact ⟨rfl, rfl⟩

set_option maxHeartbeats 400000 in
theorem parse_marks (s : ByteArray) (w : World) (h : s.size = 35) (hb : ¬ (s[0].toNat = 60 ∧ s[17].toNat = 44 ∧ s[34].toNat = 62)) :
    Calls Tryd.prog 44 #[.string s] w fun e w' => e = .returned (.tuple #[.complex .f64 0 0, .bool false]) ∧ w' = w := by
  rcases (show ¬ s[0].toNat = 60 ∨ (s[0].toNat = 60 ∧ ¬ s[17].toNat = 44) ∨ (s[0].toNat = 60 ∧ s[17].toNat = 44 ∧ ¬ s[34].toNat = 62) by omega) with k | ⟨k0, k⟩ | ⟨k0, k1, k⟩
  · have g0 : ((s[0].toNat : Int) != 60) = true := by simp; omega
    clear hb
    go_enter Tryd.func44, Tryd.ntmps44
    go_wp2
    go_ret2
    exact ⟨rfl, rfl⟩
  · have g0 : ((s[0].toNat : Int) != 60) = false := by simp; omega
    have g1 : ((s[17].toNat : Int) != 44) = true := by simp; omega
    clear hb
    go_enter Tryd.func44, Tryd.ntmps44
    go_wp2
    go_ret2
    exact ⟨rfl, rfl⟩
  · have g0 : ((s[0].toNat : Int) != 60) = false := by simp; omega
    have g1 : ((s[17].toNat : Int) != 44) = false := by simp; omega
    have g2 : ((s[34].toNat : Int) != 62) = true := by simp; omega
    clear hb
    go_enter Tryd.func44, Tryd.ntmps44
    go_wp2
    go_ret2
    exact ⟨rfl, rfl⟩

theorem ext_size (s : ByteArray) (h : s.size = 35) : (s.extract 1 17).size = 16 ∧ (s.extract 18 34).size = 16 := by
  rw [ByteArray.size_extract, ByteArray.size_extract, h]; exact ⟨rfl, rfl⟩

set_option maxHeartbeats 1000000 in
theorem parse_digits (s : ByteArray) (w : World) (h : s.size = 35) (k0 : s[0].toNat = 60) (k1 : s[17].toNat = 44) (k2 : s[34].toNat = 62) :
    Calls Tryd.prog 44 #[.string s] w fun e w' => e = .returned (.tuple #[.complex .f64 ((pr s).getD (0, 0)).1 ((pr s).getD (0, 0)).2, .bool (pr s).isSome]) ∧ w' = w := by
  have g0 : ((s[0].toNat : Int) != 60) = false := by simp; omega
  have g1 : ((s[17].toNat : Int) != 44) = false := by simp; omega
  have g2 : ((s[34].toNat : Int) != 62) = false := by simp; omega
  have hm : marks s = true := by
    have e0 : s.data[0]? = some 60 := by
      rw [Array.getElem?_eq_getElem (by show 0 < s.size; omega)]; exact congrArg some (UInt8.toNat.inj k0)
    have e1 : s.data[17]? = some 44 := by
      rw [Array.getElem?_eq_getElem (by show 17 < s.size; omega)]; exact congrArg some (UInt8.toNat.inj k1)
    have e2 : s.data[34]? = some 62 := by
      rw [Array.getElem?_eq_getElem (by show 34 < s.size; omega)]; exact congrArg some (UInt8.toNat.inj k2)
    unfold marks; rw [h, e0, e1, e2]; rfl
  have hp : pr s = (rdS (s.extract 1 17)).bind fun a => (rdS (s.extract 18 34)).bind fun b => if okB a b then some (a, b) else none := by
    unfold pr; rw [if_pos hm]
  have P := hide hp
  obtain ⟨z1, z2⟩ := ext_size s h
  clear hp hm k0 k1 k2
  cases h1 : rdS (s.extract 1 17) with
  | none =>
    go_enter Tryd.func44, Tryd.ntmps44
    go_wp2_with (go_at_call 58; refine (readDigits_any _ _ (by omega)).mono ?_; rintro e w' ⟨rfl, rfl⟩)
    go_ret2
    have e : pr s = none := by rw [unhide P, h1]; rfl
    exact ⟨ret_cb (by rw [e]; rfl) (by rw [e]; rfl) (by rw [e]; rfl), rfl⟩
  | some a =>
    have wa : Wd a := rd_wd h1 (by show (s.extract 1 17).data.toList.length ≤ 16; rw [Array.length_toList]; exact Nat.le_of_eq z1)
    cases h2 : rdS (s.extract 18 34) with
    | none =>
      go_enter Tryd.func44, Tryd.ntmps44
      go_wp2_with (go_at_call 58; refine (readDigits_any _ _ (by omega)).mono ?_; rintro e w' ⟨rfl, rfl⟩)
      go_ret2
      have e : pr s = none := by rw [unhide P, h1, h2]; rfl
      exact ⟨ret_cb (by rw [e]; rfl) (by rw [e]; rfl) (by rw [e]; rfl), rfl⟩
    | some b =>
      have wb : Wd b := rd_wd h2 (by show (s.extract 18 34).data.toList.length ≤ 16; rw [Array.length_toList]; exact Nat.le_of_eq z2)
      cases ho : okB a b with
      | false =>
        go_enter Tryd.func44, Tryd.ntmps44
        go_wp2_with (first | (go_at_call 58; refine (readDigits_any _ _ (by omega)).mono ?_; rintro e w' ⟨rfl, rfl⟩) | (go_at_call 59; refine (fromBits_any _ _ _ ?_ ?_).mono ?_; assumption; assumption; rintro e w' ⟨rfl, rfl⟩))
        go_ret2
        have e : pr s = none := by rw [unhide P, h1, h2]; simp only [Option.bind_some, ho]; rfl
        exact ⟨ret_cb (by rw [e]; rfl) (by rw [e]; rfl) (by rw [e]; rfl), rfl⟩
      | true =>
        go_enter Tryd.func44, Tryd.ntmps44
        go_wp2_with (first | (go_at_call 58; refine (readDigits_any _ _ (by omega)).mono ?_; rintro e w' ⟨rfl, rfl⟩) | (go_at_call 59; refine (fromBits_any _ _ _ ?_ ?_).mono ?_; assumption; assumption; rintro e w' ⟨rfl, rfl⟩))
        go_ret2
        have e : pr s = some (a, b) := by rw [unhide P, h1, h2]; simp only [Option.bind_some, ho, if_true]
        exact ⟨ret_cb (by rw [e]; rfl) (by rw [e]; rfl) (by rw [e]; rfl), rfl⟩

theorem not_marks {s : ByteArray} (h : marks s = false) : pr s = none := by unfold pr; rw [h]; rfl

theorem parse_any (s : ByteArray) (w : World) :
    Calls Tryd.prog 44 #[.string s] w fun e w' => e = .returned (.tuple #[.complex .f64 ((pr s).getD (0, 0)).1 ((pr s).getD (0, 0)).2, .bool (pr s).isSome]) ∧ w' = w := by
  by_cases h : s.size = 35
  · by_cases hb : s[0].toNat = 60 ∧ s[17].toNat = 44 ∧ s[34].toNat = 62
    · exact parse_digits s w h hb.1 hb.2.1 hb.2.2
    · refine (parse_marks s w h hb).mono ?_
      rintro e w' ⟨rfl, rfl⟩
      have hm : marks s = false := by
        cases hm : marks s with
        | false => rfl
        | true =>
          exfalso
          apply hb
          unfold marks at hm
          simp only [Bool.and_eq_true, beq_iff_eq] at hm
          have f : ∀ (i : Nat) (hi : i < s.size) (c : UInt8), s.data[i]? = some c → s[i].toNat = c.toNat := by
            intro i hi c hc
            rw [Array.getElem?_eq_getElem (by exact hi)] at hc
            exact congrArg UInt8.toNat (Option.some.inj hc)
          exact ⟨f 0 (by omega) 60 hm.1.1.2, f 17 (by omega) 44 hm.1.2, f 34 (by omega) 62 hm.2⟩
      have e := not_marks hm
      exact ⟨ret_cb (by rw [e]; rfl) (by rw [e]; rfl) (by rw [e]; rfl), rfl⟩
  · refine (parse_short s w h).mono ?_
    rintro e w' ⟨rfl, rfl⟩
    have hm : marks s = false := by
      unfold marks
      have : (s.size == 35) = false := by simpa using h
      rw [this]; rfl
    have e := not_marks hm
    exact ⟨ret_cb (by rw [e]; rfl) (by rw [e]; rfl) (by rw [e]; rfl), rfl⟩

end Go.Proofs.YtmcmfgihdhfcdaaDoor
