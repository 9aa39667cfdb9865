/- Plain facts on sixteen digits: a word's digits, and a word read from its digits. -/
import Derived.Test.YtmcmfgihdhfcdaaDoorFloat
namespace Go.Proofs.YtmcmfgihdhfcdaaDoor

/-- A digit's byte. -/
def hexD (k : Nat) : UInt8 := if k < 10 then UInt8.ofNat (48 + k) else UInt8.ofNat (87 + k)
/-- The last i digits of a word, the greatest first. -/
def hx : Nat → Nat → List UInt8
  | 0, _ => []
  | i + 1, n => hexD (n / 16 ^ i % 16) :: hx i n
/-- A byte's digit. -/
def digV (c : UInt8) : Option Nat := if 48 ≤ c.toNat ∧ c.toNat ≤ 57 then some (c.toNat - 48) else if 97 ≤ c.toNat ∧ c.toNat ≤ 102 then some (c.toNat - 87) else none
/-- A word read from digits. -/
def rdL : Nat → List UInt8 → Option Nat
  | acc, [] => some acc
  | acc, c :: r => (digV c).bind fun d => rdL (acc * 16 + d) r

theorem hexD_toNat {k : Nat} (h : k < 16) : (hexD k).toNat = if k < 10 then 48 + k else 87 + k := by
  unfold hexD
  split <;> simp <;> omega

theorem digV_hexD {k : Nat} (h : k < 16) : digV (hexD k) = some k := by
  unfold digV
  rw [hexD_toNat h]
  by_cases h1 : k < 10
  · rw [if_pos h1, if_pos (by omega)]; congr 1; omega
  · rw [if_neg h1, if_neg (by omega), if_pos (by omega)]; congr 1; omega

theorem digV_some {c : UInt8} {d : Nat} (h : digV c = some d) : d < 16 ∧ hexD d = c := by
  unfold digV at h
  split at h
  · cases h
    refine ⟨by omega, ?_⟩
    apply UInt8.toNat.inj
    rw [hexD_toNat (by omega), if_pos (by omega)]; omega
  · split at h
    · cases h
      refine ⟨by omega, ?_⟩
      apply UInt8.toNat.inj
      rw [hexD_toNat (by omega), if_neg (by omega)]; omega
    · cases h

theorem hx_length (i n : Nat) : (hx i n).length = i := by
  induction i with
  | zero => rfl
  | succ i ih => simp [hx, ih]

theorem hx_get (i n k : Nat) (h : k < i) : (hx i n)[k]? = some (hexD (n / 16 ^ (i - 1 - k) % 16)) := by
  induction i generalizing k with
  | zero => omega
  | succ i ih =>
    cases k with
    | zero => simp [hx]
    | succ k =>
      simp only [hx, List.getElem?_cons_succ]
      rw [ih k (by omega), show i + 1 - 1 - (k + 1) = i - 1 - k by omega]

theorem hx_take (i n k : Nat) (h : k < i) : (hx i n).take (k + 1) = (hx i n).take k ++ [hexD (n / 16 ^ (i - 1 - k) % 16)] := by
  rw [List.take_add_one, hx_get i n k h]; rfl

theorem mod_step (n i : Nat) : n % 16 ^ (i + 1) = (n / 16 ^ i % 16) * 16 ^ i + n % 16 ^ i := by
  rw [Nat.pow_succ, Nat.mod_mul, Nat.mul_comm (16 ^ i), Nat.add_comm]

theorem rd_hx (i n acc : Nat) : rdL acc (hx i n) = some (acc * 16 ^ i + n % 16 ^ i) := by
  induction i generalizing acc with
  | zero => simp [hx, rdL, Nat.mod_one]
  | succ i ih =>
    simp only [hx, rdL]
    rw [digV_hexD (Nat.mod_lt _ (by decide)), Option.bind_some, ih, mod_step]
    congr 1
    rw [Nat.pow_succ, Nat.add_mul, Nat.mul_assoc, Nat.mul_comm 16 (16 ^ i)]
    omega

theorem rd_val {acc v : Nat} {l : List UInt8} (h : rdL acc l = some v) : ∃ low, low < 16 ^ l.length ∧ v = acc * 16 ^ l.length + low := by
  induction l generalizing acc with
  | nil => simp only [rdL, Option.some.injEq] at h; exact ⟨0, by simp, by simp [h]⟩
  | cons c r ih =>
    simp only [rdL] at h
    cases hd : digV c with
    | none => rw [hd] at h; cases h
    | some d =>
      rw [hd, Option.bind_some] at h
      obtain ⟨low, hl, hv⟩ := ih h
      have hd16 := (digV_some hd).1
      have hp : 0 < 16 ^ r.length := Nat.pow_pos (by decide)
      refine ⟨d * 16 ^ r.length + low, ?_, ?_⟩
      · rw [List.length_cons, Nat.pow_succ]
        have : d * 16 ^ r.length ≤ 15 * 16 ^ r.length := Nat.mul_le_mul_right _ (by omega)
        omega
      · rw [hv, List.length_cons, Nat.pow_succ, Nat.add_mul, Nat.mul_assoc, Nat.mul_comm 16 (16 ^ r.length)]; omega

theorem hx_rd {acc v : Nat} {l : List UInt8} (h : rdL acc l = some v) : hx l.length v = l := by
  induction l generalizing acc with
  | nil => rfl
  | cons c r ih =>
    simp only [rdL] at h
    cases hd : digV c with
    | none => rw [hd] at h; cases h
    | some d =>
      rw [hd, Option.bind_some] at h
      obtain ⟨low, hl, hv⟩ := rd_val h
      have hd16 := digV_some hd
      have hp : 0 < 16 ^ r.length := Nat.pow_pos (by decide)
      simp only [List.length_cons, hx]
      have e : v / 16 ^ r.length % 16 = d := by
        rw [hv, Nat.mul_comm, Nat.mul_add_div hp, Nat.div_eq_of_lt hl]; omega
      rw [e, hd16.2, ih h]

/-- Digits one more. -/
theorem rd_snoc (acc : Nat) (l : List UInt8) (c : UInt8) : rdL acc (l ++ [c]) = (rdL acc l).bind fun n => (digV c).bind fun d => some (n * 16 + d) := by
  induction l generalizing acc with
  | nil => simp [rdL]
  | cons x r ih =>
    simp only [List.cons_append, rdL]
    cases digV x with
    | none => rfl
    | some d => simp only [Option.bind_some]; exact ih _

theorem rd_none_take {acc : Nat} {l : List UInt8} {k : Nat} (h : rdL acc (l.take k) = none) : rdL acc l = none := by
  induction l generalizing acc k with
  | nil => simpa using h
  | cons x r ih =>
    cases k with
    | zero => simp [rdL] at h
    | succ k =>
      simp only [List.take_succ_cons, rdL] at h ⊢
      cases hd : digV x with
      | none => rfl
      | some d => rw [hd, Option.bind_some] at h; rw [Option.bind_some]; exact ih h

end Go.Proofs.YtmcmfgihdhfcdaaDoor
