/- The walk of the law LexInts: digits are the number that they tell, alone or with an i; one too great is none. -/
import Derived.Test.YtbncceknldjbjaaDoorLawRem
set_option linter.unusedSimpArgs false
set_option linter.unusedVariables false
set_option maxRecDepth 10000
namespace Go.Proofs.YtbncceknldjbjaaDoor
open Go.RowKit

/-- A text of digits that spell n. -/
structure Dgs (t : ByteArray) (n : Nat) : Prop where
  all : ∀ c ∈ L t, dg c = true
  ne : L t ≠ []
  val : dv 0 (L t) = n

/-- A digit's sign. -/
def dgt (d : Nat) : UInt8 := UInt8.ofNat (48 + d)
theorem tab_cut : ∀ d, d < 10 → ({ data := #[48, 49, 50, 51, 52, 53, 54, 55, 56, 57] } : ByteArray).extract d (d + 1) = ⟨#[dgt d]⟩ := by decide
theorem dig_of : ∀ d, d < 10 → dg (dgt d) = true ∧ (dgt d).toNat - 48 = d := by decide
theorem dgt_nat : ∀ d, d < 10 → (dgt d).toNat = 48 + d := by decide

theorem ret_str {a b : ByteArray} (h : a = b) : Ending.returned (.string a) = .returned (.string b) := by rw [h]

set_option maxHeartbeats 2000000 in
theorem digits_any (n : Nat) (w : World) (hn : n ≤ 9223372036854775807) :
    Calls Tryd.prog 13 #[.int .i64 n] w fun e w' => ∃ t : ByteArray, e = .returned (.string t) ∧ Dgs t n ∧ t.size ≤ 20 ∧ w' = w := by
  go_enter Tryd.func13, Tryd.ntmps13
  have hmin : ((n : Int) == -9223372036854775808) = false := by simp
  go_wp2
  go_loop [0, 3] (fun x v => ∃ (m k : Nat) (t : ByteArray), x = .int .i64 m ∧ v = .string t ∧ t.size = k ∧ m ≤ n ∧ (k = 0 ∨ 1 ≤ m) ∧ Hd (m * 10 ^ k ≤ n ∧ (∀ c ∈ L t, dg c = true) ∧ dv m (L t) = n)) (fun x _ => (intOf x).toNat)
  case atStart => exact ⟨n, 0, _, rfl, rfl, rfl, Nat.le_refl _, Or.inl rfl, ⟨by rw [Nat.pow_zero, Nat.mul_one]; exact Nat.le_refl _, (fun c hc => by cases hc), rfl⟩⟩
  case round =>
    obtain ⟨m, k, t, rfl, rfl, hk, hm, hp, hI⟩ := hrel
    have hsz : t.size ≤ 19 := by
      rcases Nat.lt_or_ge k 20 with h | h
      · omega
      · have h1 := (unhide hI).1
        have h2 : 10 ^ 20 ≤ 10 ^ k := Nat.pow_le_pow_right (by decide) h
        have h3 : m * 10 ^ 20 ≤ m * 10 ^ k := Nat.mul_le_mul_left m h2
        have h4 : (10 : Nat) ^ 20 = 100000000000000000000 := rfl
        omega
    have hkk := hide hk
    clear hk
    by_cases hlt : 9 < m
    · obtain ⟨d, hd⟩ : ∃ d, d = m % 10 := ⟨_, rfl⟩
      have hd10 : d < 10 := by rw [hd]; exact Nat.mod_lt _ (by decide)
      have ht := tab_cut d hd10
      have hmod : (m : Int) % 10 = (d : Int) := by omega
      have hN : Hd (m / 10 * 10 ^ (k + 1) ≤ n ∧ (∀ c ∈ L (({ data := #[dgt d] } : ByteArray) ++ t), dg c = true) ∧ dv (m / 10) (L (({ data := #[dgt d] } : ByteArray) ++ t)) = n) := by
        obtain ⟨h1, h2, h3⟩ := unhide hI
        obtain ⟨g1, g2⟩ := dig_of d hd10
        rw [L_append]
        refine ⟨?_, ?_, ?_⟩
        · refine Nat.le_trans ?_ h1
          rw [Nat.pow_succ, Nat.mul_comm (10 ^ k) 10, ← Nat.mul_assoc]
          exact Nat.mul_le_mul_right _ (Nat.div_mul_le_self m 10)
        · intro c hc
          rcases List.mem_append.1 hc with hc | hc
          · rw [List.mem_singleton.1 (show c ∈ [dgt d] from hc)]; exact g1
          · exact h2 c hc
        · show dv (m / 10) (dgt d :: L t) = n
          rw [dv_cons, g2, hd, show m / 10 * 10 + m % 10 = m by omega]
          exact h3
      have hz : Hd ((({ data := #[dgt d] } : ByteArray) ++ t).size = k + 1) := by rw [ByteArray.size_append, unhide hkk]; show 1 + k = _; omega
      clear hd
      go_wp2
      go_round
      case rel => exact ⟨m / 10, k + 1, _, by go_num, rfl, unhide hz, by omega, by omega, hN⟩
      case measure => simp [intOf]; omega
    · have hF : Hd (Dgs (({ data := #[dgt m] } : ByteArray) ++ t) n ∧ (({ data := #[dgt m] } : ByteArray) ++ t).size ≤ 20) := by
        obtain ⟨h1, h2, h3⟩ := unhide hI
        obtain ⟨g1, g2⟩ := dig_of m (by omega)
        refine ⟨⟨?_, ?_, ?_⟩, ?_⟩
        · rw [L_append]
          intro c hc
          rcases List.mem_append.1 hc with hc | hc
          · rw [List.mem_singleton.1 (show c ∈ [dgt m] from hc)]; exact g1
          · exact h2 c hc
        · rw [L_append]; simp [L]
        · rw [L_append]
          show dv 0 (dgt m :: L t) = n
          rw [dv_cons, g2, Nat.zero_mul, Nat.zero_add]
          exact h3
        · rw [ByteArray.size_append]; show 1 + t.size ≤ 20; omega
      have ht := tab_cut m (by omega)
      go_wp2
      go_ret
      exact ⟨_, rfl, (unhide hF).1, (unhide hF).2, rfl⟩

/-- What stands behind the digits, the word's kind. -/
def iE (im : Bool) : List UInt8 := if im then [105] else []
def iK (im : Bool) : Int := if im then 4 else 3

theorem num_lex (T : ByteArray) (l : List UInt8) (im : Bool) (hT : L T = l ++ iE im) (hl : ∀ c ∈ l, dg c = true) (hne : l ≠ []) :
    lexF (T.size + 1) T 0 = if dv 0 l ≤ 9223372036854775807 then ([⟨iK im, ⟨#[]⟩, (dv 0 l : Nat), 0⟩], none) else ([], some 0) := by
  have hsz : T.size = l.length + (iE im).length := by rw [← L_len, hT, List.length_append]
  have hnd : nd T 0 = l.length := by
    unfold nd
    rw [List.drop_zero, hT]
    refine run_all l _ hl ?_
    intro c hc
    cases im
    · cases hc
    · cases hc; decide
  have hnv : nv T 0 = dv 0 l := by
    unfold nv
    rw [hnd, List.drop_zero, hT, List.take_left]
  obtain ⟨c, r, rfl⟩ : ∃ c r, l = c :: r := by
    cases l with
    | nil => exact absurd rfl hne
    | cons c r => exact ⟨c, r, rfl⟩
  have hc := hl c (by simp)
  have hcn := (dg_iff c).1 hc
  have hb : bl c = false := by rw [← Bool.not_eq_true, bl_iff]; omega
  have hd0 : (L T).drop 0 = c :: (r ++ iE im) := by rw [List.drop_zero, hT]; rfl
  have hsk : skp false ((L T).drop 0) = 0 := by rw [hd0, skp, hb, if_neg (by decide), if_neg (by omega)]
  have hpos : 0 + 0 < T.size := by rw [hsz, List.length_cons]; omega
  have htk : tokT T (0 + 0) = numT T 0 := by
    unfold tokT
    rw [at_drop hd0]
    show (if dg c = true then _ else _) = _
    rw [if_pos hc]
  have hI : isI T ((c :: r).length) = im := by
    unfold isI
    rw [hT, List.getElem?_append_right (Nat.le_refl _), Nat.sub_self]
    cases im <;> rfl
  have hnum : numT T 0 = if dv 0 (c :: r) ≤ 9223372036854775807 then some ((iK im, (⟨#[]⟩ : ByteArray), ((dv 0 (c :: r) : Nat) : Int), T.size) : Int × ByteArray × Int × Nat) else none := by
    unfold numT
    rw [hnv, hnd, Nat.zero_add, hI]
    by_cases hv : dv 0 (c :: r) ≤ 9223372036854775807
    · rw [if_neg (by omega), if_pos hv]
      cases im
      · rw [if_neg (by decide), nmAt_end T _ (by rw [hsz]; exact Nat.le_refl _), if_neg (by decide), hsz]; rfl
      · rw [if_pos rfl, nmAt_end T _ (by rw [hsz]; exact Nat.le_refl _), if_neg (by decide), hsz]; rfl
    · rw [if_pos (by omega), if_neg hv]
  by_cases hv : dv 0 (c :: r) ≤ 9223372036854775807
  · rw [if_pos hv] at hnum ⊢
    rw [lex_tok T.size T 0 0 _ _ _ _ hsk hpos (htk.trans hnum)]
    obtain ⟨g, hg⟩ : ∃ g, T.size = g + 1 := ⟨T.size - 1, by omega⟩
    rw [hg, ← hg, show lexF T.size T T.size = ([], none) by conv => { lhs; arg 1; rw [hg] }; exact lex_end g T _ (Nat.le_refl _)]
  · rw [if_neg hv] at hnum ⊢
    rw [lex_bad T.size T 0 0 hsk hpos (htk.trans hnum)]

theorem mask7 (a : Int) : ∃ n : Nat, bits .and .i64 a 7 = n ∧ n ≤ 7 := by
  refine ⟨(BitVec.ofInt 64 a &&& BitVec.ofInt 64 7).toNat, ?_, ?_⟩
  · have hl : (BitVec.ofInt 64 a &&& BitVec.ofInt 64 7).toNat ≤ 7 := by
      rw [BitVec.toNat_and]; exact Nat.and_le_right
    show IntKind.wrap .i64 ((BitVec.ofInt 64 a &&& BitVec.ofInt 64 7).toNat : Int) = _
    generalize (BitVec.ofInt 64 a &&& BitVec.ofInt 64 7).toNat = n at hl
    rw [IntKind.wrap_i64]
    omega
  · rw [BitVec.toNat_and]; exact Nat.and_le_right

theorem Dgs.nought {t : ByteArray} {n : Nat} (h : Dgs t n) : Dgs (({ data := #[48] } : ByteArray) ++ t) n := by
  refine ⟨?_, ?_, ?_⟩
  · rw [L_append]
    intro c hc
    rcases List.mem_append.1 hc with hc | hc
    · rw [List.mem_singleton.1 (show c ∈ [48] from hc)]; decide
    · exact h.all c hc
  · rw [L_append]; simp [L]
  · rw [L_append]
    show dv 0 (48 :: L t) = n
    rw [dv_cons]
    exact h.val

theorem Dgs.more {t : ByteArray} {n d : Nat} (h : Dgs t n) (hd : d < 10) : (∀ c ∈ L t ++ [dgt d], dg c = true) ∧ L t ++ [dgt d] ≠ [] ∧ dv 0 (L t ++ [dgt d]) = n * 10 + d := by
  obtain ⟨g1, g2⟩ := dig_of d hd
  refine ⟨?_, by simp, ?_⟩
  · intro c hc
    rcases List.mem_append.1 hc with hc | hc
    · exact h.all c hc
    · rw [List.mem_singleton.1 hc]; exact g1
  · rw [dv_snoc, g2, h.val]

theorem one_text (W : World) (d : Nat) (hd : d < 10) : (convert 37 9 (.slice (some ⟨W.heap.size, 0, none⟩) 1 1)).run Tryd.prog (W.alloc (.cells #[.int .u8 (48 + d)] 5)) = .ok (.string ⟨#[dgt d]⟩) (W.alloc (.cells #[.int .u8 (48 + d)] 5)) := by
  have hb : [Value.int .u8 (48 + d)] = [dgt d].map B := by
    simp only [List.map_cons, List.map_nil, B, dgt_nat d hd]
    rfl
  refine run_text_of_row (base := W.heap.size) (l := [dgt d]) ?_
  rw [← hb]
  exact ⟨rfl, .inr ⟨W.heap.size, 1, #[.int .u8 (48 + d)], rfl, Nat.le_refl _, heap_alloc_new _ _, Nat.le_refl _, by unfold maxLen; omega, rfl, rfl⟩⟩

theorem L_iE (im : Bool) : L (if im then ({ data := #[105] } : ByteArray) else { data := #[] }) = iE im := by cases im <;> rfl

/-- The second half: behind the noughts. -/
theorem ints_lex (t : ByteArray) (n d : Nat) (im : Bool) (h : Dgs t n) (hd : d < 10) (hn : n ≤ 9223372036854775807) (E : ByteArray) (hE : L E = iE im) :
    lexF ((t ++ E).size + 1) (t ++ E) 0 = ([⟨iK im, ⟨#[]⟩, (n : Int), 0⟩], none) ∧
    lexF (((t ++ ⟨#[dgt d]⟩) ++ E).size + 1) ((t ++ ⟨#[dgt d]⟩) ++ E) 0 = if n * 10 + d ≤ 9223372036854775807 then ([⟨iK im, ⟨#[]⟩, ((n * 10 + d : Nat) : Int), 0⟩], none) else ([], some 0) := by
  obtain ⟨m1, m2, m3⟩ := h.more hd
  constructor
  · rw [num_lex (t ++ E) (L t) im (by rw [L_append, hE]) h.all h.ne, h.val, if_pos hn]
  · rw [num_lex _ (L t ++ [dgt d]) im (by rw [L_append, L_append, hE]; rfl) m1 m2, m3]

set_option maxHeartbeats 8000000 in
theorem ints_nat (n0 : Int) (n x : Nat) (q : Int) (im : Bool) (w : World) (he : Er w) (hn : n ≤ 9223372036854775807) (hx : x < 256) (hlo : -9223372036854775808 ≤ n0) (hhi : n0 ≤ 9223372036854775807) (h0 : (n0 < 0 ∧ -(n0 + 1) = (n : Int)) ∨ (¬ n0 < 0 ∧ n0 = (n : Int))) :
    Calls Tryd.prog 6 #[.int .i64 n0, .int .i64 q, .int .u8 x, .bool im] w fun e w' => e = .returned (.bool true) ∧ Ext w w' := by
  have HA := hide (fun W (x : Ext w W) => awake_any W (he.on x))
  have HD := hide (fun W => digits_any n W hn)
  obtain ⟨m, hm, hm7⟩ := mask7 q
  have HE := hide he
  clear he
  obtain ⟨d, hd⟩ : ∃ d, d = x % 10 := ⟨_, rfl⟩
  have hd10 : d < 10 := by rw [hd]; exact Nat.mod_lt _ (by decide)
  have hxd : (x : Int) % 10 = (d : Int) := by omega
  clear hd
  rcases h0 with ⟨h1, h2⟩ | ⟨h1, rfl⟩
  all_goals
    go_enter Tryd.func6, Tryd.ntmps6
    go_wp2_with (go_at_call 13; refine Calls.mono (unhide HD _) ?_; rintro e w1 ⟨t, rfl, hT, hts, hw⟩; obtain rfl := hw.symm; have DT := hide hT; clear hT)
    go_loop [9, 10] (fun v i => ∃ (k : Nat) (u : ByteArray), k ≤ m ∧ i = .int .i64 k ∧ v = .string u ∧ u.size ≤ 20 + k ∧ Hd (Dgs u n)) (fun _ i => m - (intOf i).toNat)
    case atStart => exact ⟨0, t, Nat.zero_le _, rfl, rfl, by omega, DT⟩
    case round =>
      obtain ⟨k, u, hk, rfl, rfl, hu, hI⟩ := hrel
      by_cases hlt : k < m
      · have hN := hide (unhide hI).nought
        have hz : Hd ((({ data := #[48] } : ByteArray) ++ u).size ≤ 20 + (k + 1)) := by rw [ByteArray.size_append]; show 1 + u.size ≤ _; omega
        go_wp2
        go_round
        case rel => exact ⟨k + 1, _, by omega, by go_num, rfl, unhide hz, hN⟩
        case measure => simp [intOf]; omega
      · have hcv := fun W => one_text W d hd10
        cases im
        · have hX := ints_lex u n d false (unhide hI) hd10 hn { data := #[] } rfl
          rw [show iK false = 3 from rfl] at hX
          have HT1 := hide (tokens_is _ _ w (unhide HE) (by rw [ByteArray.size_append]; show u.size + 0 ≤ _; omega) hX.1 (by simp))
          by_cases hb : n * 10 + d ≤ 9223372036854775807
          · have hq : ¬ ((9223372036854775807 - (d : Int)) / 10 < (n : Int)) := by omega
            have h2' := hX.2
            rw [if_pos hb, show ((n * 10 + d : Nat) : Int) = 10 * (n : Int) + (d : Int) by omega] at h2'
            have HT2 := hide (fun W (x : Ext w W) => tokens_is _ _ W ((unhide HE).on x) (by rw [ByteArray.size_append, ByteArray.size_append]; show u.size + 1 + 0 ≤ _; omega) h2' (by simp))
            clear hX h2'
            go_wp2_with (first
              | (go_at_call 8; have G := unhide CC; clear G; refine Calls.mono (unhide HT2 _ ((unhide X).trans (Ext.alloc _ _))) ?_; rintro e w2 ⟨g2, cap2, rfl, hc, hw⟩; have f2 := hc 2 _ rfl; have k0 := (unhide CC 0 _ rfl); have k2 := (unhide CC 2 _ rfl); have Y := hide (((unhide X).trans (Ext.alloc _ _)).trans hw); have c0 := hw.cell ((Ext.alloc _ _).cell k0); have c2 := hw.cell ((Ext.alloc _ _).cell k2); clear hc hw k0 k2)
              | (go_at_call 8; refine Calls.mono (unhide HT1) ?_; rintro e w1 ⟨g, cap, rfl, hc, hw⟩; have CC := hide hc; have X := hide hw; clear hc hw)
              | (go_at_call 10; refine Calls.mono (unhide HA _ (unhide Y)) ?_; rintro e w3 ⟨rfl, hw⟩; have Z := hide ((unhide Y).trans hw); clear hw))
            go_ret
            exact ⟨rfl, unhide Z⟩
          · have hq : (9223372036854775807 - (d : Int)) / 10 < (n : Int) := by omega
            have h2' := hX.2
            rw [if_neg hb] at h2'
            have HT2 := hide (fun W (x : Ext w W) => tokens_bad _ _ _ W ((unhide HE).on x) (by rw [ByteArray.size_append, ByteArray.size_append]; show u.size + 1 + 0 ≤ _; omega) h2')
            clear hX h2'
            go_wp2_with (first
              | (go_at_call 8; have G := unhide CC; clear G; refine Calls.mono (unhide HT2 _ ((unhide X).trans (Ext.alloc _ _))) ?_; rintro e w2 ⟨rfl, hw⟩; have k0 := (unhide CC 0 _ rfl); have k2 := (unhide CC 2 _ rfl); have Y := hide (((unhide X).trans (Ext.alloc _ _)).trans hw); have c0 := hw.cell ((Ext.alloc _ _).cell k0); have c2 := hw.cell ((Ext.alloc _ _).cell k2); clear hw k0 k2)
              | (go_at_call 8; refine Calls.mono (unhide HT1) ?_; rintro e w1 ⟨g, cap, rfl, hc, hw⟩; have CC := hide hc; have X := hide hw; clear hc hw)
              | (go_at_call 10; refine Calls.mono (unhide HA _ (unhide Y)) ?_; rintro e w3 ⟨rfl, hw⟩; have Z := hide ((unhide Y).trans hw); clear hw))
            go_ret
            exact ⟨rfl, unhide Z⟩
        · have hX := ints_lex u n d true (unhide hI) hd10 hn { data := #[105] } rfl
          rw [show iK true = 4 from rfl] at hX
          have HT1 := hide (tokens_is _ _ w (unhide HE) (by rw [ByteArray.size_append]; show u.size + 1 ≤ _; omega) hX.1 (by simp))
          by_cases hb : n * 10 + d ≤ 9223372036854775807
          · have hq : ¬ ((9223372036854775807 - (d : Int)) / 10 < (n : Int)) := by omega
            have h2' := hX.2
            rw [if_pos hb, show ((n * 10 + d : Nat) : Int) = 10 * (n : Int) + (d : Int) by omega] at h2'
            have HT2 := hide (fun W (x : Ext w W) => tokens_is _ _ W ((unhide HE).on x) (by rw [ByteArray.size_append, ByteArray.size_append]; show u.size + 1 + 1 ≤ _; omega) h2' (by simp))
            clear hX h2'
            go_wp2_with (first
              | (go_at_call 8; have G := unhide CC; clear G; refine Calls.mono (unhide HT2 _ ((unhide X).trans (Ext.alloc _ _))) ?_; rintro e w2 ⟨g2, cap2, rfl, hc, hw⟩; have f2 := hc 2 _ rfl; have k0 := (unhide CC 0 _ rfl); have k2 := (unhide CC 2 _ rfl); have Y := hide (((unhide X).trans (Ext.alloc _ _)).trans hw); have c0 := hw.cell ((Ext.alloc _ _).cell k0); have c2 := hw.cell ((Ext.alloc _ _).cell k2); clear hc hw k0 k2)
              | (go_at_call 8; refine Calls.mono (unhide HT1) ?_; rintro e w1 ⟨g, cap, rfl, hc, hw⟩; have CC := hide hc; have X := hide hw; clear hc hw)
              | (go_at_call 10; refine Calls.mono (unhide HA _ (unhide Y)) ?_; rintro e w3 ⟨rfl, hw⟩; have Z := hide ((unhide Y).trans hw); clear hw))
            go_ret
            exact ⟨rfl, unhide Z⟩
          · have hq : (9223372036854775807 - (d : Int)) / 10 < (n : Int) := by omega
            have h2' := hX.2
            rw [if_neg hb] at h2'
            have HT2 := hide (fun W (x : Ext w W) => tokens_bad _ _ _ W ((unhide HE).on x) (by rw [ByteArray.size_append, ByteArray.size_append]; show u.size + 1 + 1 ≤ _; omega) h2')
            clear hX h2'
            go_wp2_with (first
              | (go_at_call 8; have G := unhide CC; clear G; refine Calls.mono (unhide HT2 _ ((unhide X).trans (Ext.alloc _ _))) ?_; rintro e w2 ⟨rfl, hw⟩; have k0 := (unhide CC 0 _ rfl); have k2 := (unhide CC 2 _ rfl); have Y := hide (((unhide X).trans (Ext.alloc _ _)).trans hw); have c0 := hw.cell ((Ext.alloc _ _).cell k0); have c2 := hw.cell ((Ext.alloc _ _).cell k2); clear hw k0 k2)
              | (go_at_call 8; refine Calls.mono (unhide HT1) ?_; rintro e w1 ⟨g, cap, rfl, hc, hw⟩; have CC := hide hc; have X := hide hw; clear hc hw)
              | (go_at_call 10; refine Calls.mono (unhide HA _ (unhide Y)) ?_; rintro e w3 ⟨rfl, hw⟩; have Z := hide ((unhide Y).trans hw); clear hw))
            go_ret
            exact ⟨rfl, unhide Z⟩

theorem wf64 {a : Int} (h : (Lit.int .i64 a).wf = true) : -9223372036854775808 ≤ a ∧ a ≤ 9223372036854775807 := by
  simp only [Lit.wf, decide_eq_true_eq, Bool.and_eq_true] at h
  have e1 : IntKind.min .i64 = -9223372036854775808 := by rfl
  have e2 : IntKind.max .i64 = 9223372036854775807 := by rfl
  rw [e1, e2] at h
  exact h
theorem wf8 {a : Int} (h : (Lit.int .u8 a).wf = true) : 0 ≤ a ∧ a ≤ 255 := by
  simp only [Lit.wf, decide_eq_true_eq, Bool.and_eq_true] at h
  have e1 : IntKind.min .u8 = 0 := by rfl
  have e2 : IntKind.max .u8 = 255 := by rfl
  rw [e1, e2] at h
  exact h

theorem ints_walk (a0 a1 a2 : Int) (a3 : Bool) (w : World) (he : Er w) (w0 : (Lit.int .i64 a0).wf = true) (w1 : (Lit.int .i64 a1).wf = true) (w2 : (Lit.int .u8 a2).wf = true) :
    Calls Tryd.prog 6 #[.int .i64 a0, .int .i64 a1, .int .u8 a2, .bool a3] w fun e w' => e = .returned (.bool true) ∧ Ext w w' := by
  obtain ⟨l0, u0⟩ := wf64 w0
  obtain ⟨l2, u2⟩ := wf8 w2
  obtain ⟨x, rfl⟩ := Int.eq_ofNat_of_zero_le l2
  by_cases h : a0 < 0
  · obtain ⟨n, hn⟩ := Int.eq_ofNat_of_zero_le (show 0 ≤ -(a0 + 1) by omega)
    exact ints_nat a0 n x a1 a3 w he (by omega) (by omega) l0 u0 (Or.inl ⟨h, hn⟩)
  · obtain ⟨n, hn⟩ := Int.eq_ofNat_of_zero_le (show 0 ≤ a0 by omega)
    exact ints_nat a0 n x a1 a3 w he (by omega) (by omega) l0 u0 (Or.inr ⟨h, hn⟩)

end Go.Proofs.YtbncceknldjbjaaDoor
