/- A text between quotes, as the document writes it, and as it is read again. -/
import Derived.Test.YtbncceknldjbjaaDoorLawRem
set_option linter.unusedSimpArgs false
set_option linter.unusedVariables false
set_option maxRecDepth 10000
namespace Go.Proofs.YtbncceknldjbjaaDoor
open Go.RowKit

/-- A byte within quotes. -/
def esc (c : UInt8) : List UInt8 := if c.toNat = 34 then [92, 34] else if c.toNat = 92 then [92, 92] else if c.toNat = 10 then [92, 110] else [c]
def quo (l : List UInt8) : List UInt8 := 34 :: (l.flatMap esc ++ [34])
theorem esc_len (c : UInt8) : (esc c).length ≤ 2 := by unfold esc; split <;> (try split) <;> (try split) <;> simp
theorem flat_len (l : List UInt8) : (l.flatMap esc).length ≤ 2 * l.length := by
  induction l with
  | nil => simp
  | cons c r ih =>
    have := esc_len c
    rw [List.flatMap_cons, List.length_append, List.length_cons]
    omega

theorem str_eq {a b : ByteArray} (h : a = b) : Value.string a = .string b := by rw [h]
theorem ret_str {a b : ByteArray} (h : a = b) : Ending.returned (.string a) = .returned (.string b) := by rw [h]

set_option maxHeartbeats 2000000 in
theorem quoted_any (s : ByteArray) (w : World) (hs : s.size ≤ 1000000) :
    Calls Tryd.prog 22 #[.string s] w fun e w' => e = .returned (.string ⟨(quo (L s)).toArray⟩) ∧ w' = w := by
  go_enter Tryd.func22, Tryd.ntmps22
  go_wp2
  go_loop [3, 4] (fun v i => ∃ k : Nat, k ≤ s.size ∧ i = .int .i64 k ∧ ∃ t : ByteArray, v = .string t ∧ t.size ≤ 1 + 2 * k ∧ Hd (L t = 34 :: ((L s).take k).flatMap esc)) (fun _ i => s.size - (intOf i).toNat)
  case atStart => exact ⟨0, Nat.zero_le _, rfl, _, rfl, by decide, rfl⟩
  case round =>
    obtain ⟨k, hk, rfl, t, rfl, ht, hL⟩ := hrel
    by_cases hlt : k < s.size
    · have hE : Hd (∀ u : ByteArray, L u = esc s[k] → L (t ++ u) = 34 :: ((L s).take (k + 1)).flatMap esc) := by
        intro u hu
        rw [L_append, unhide hL, hu, List.take_succ_eq_append_getElem (by rw [L_len]; exact hlt), List.flatMap_append, List.cons_append]
        simp only [List.flatMap_cons, List.flatMap_nil, List.append_nil]
        rfl
      by_cases c1 : s[k].toNat = 34
      · have b1 : ((s[k].toNat : Int) == 34) = true := by simp; omega
        have hv : Hd (esc s[k] = [92, 34]) := by unfold esc; rw [if_pos c1]; exact rfl
        clear c1
        go_wp2
        go_round
        case rel => exact ⟨k + 1, by omega, by go_num, _, rfl, by rw [ByteArray.size_append]; show _ + 2 ≤ _; omega, unhide hE _ (unhide hv).symm⟩
        case measure => simp [intOf]; omega
      · have b1 : ((s[k].toNat : Int) == 34) = false := by simp; omega
        by_cases c2 : s[k].toNat = 92
        · have b2 : ((s[k].toNat : Int) == 92) = true := by simp; omega
          have hv : Hd (esc s[k] = [92, 92]) := by unfold esc; rw [if_neg c1, if_pos c2]; exact rfl
          clear c1 c2
          go_wp2
          go_round
          case rel => exact ⟨k + 1, by omega, by go_num, _, rfl, by rw [ByteArray.size_append]; show _ + 2 ≤ _; omega, unhide hE _ (unhide hv).symm⟩
          case measure => simp [intOf]; omega
        · have b2 : ((s[k].toNat : Int) == 92) = false := by simp; omega
          by_cases c3 : s[k].toNat = 10
          · have b3 : ((s[k].toNat : Int) == 10) = true := by simp; omega
            have hv : Hd (esc s[k] = [92, 110]) := by unfold esc; rw [if_neg c1, if_neg c2, if_pos c3]; exact rfl
            clear c1 c2 c3
            go_wp2
            go_round
            case rel => exact ⟨k + 1, by omega, by go_num, _, rfl, by rw [ByteArray.size_append]; show _ + 2 ≤ _; omega, unhide hE _ (unhide hv).symm⟩
            case measure => simp [intOf]; omega
          · have b3 : ((s[k].toNat : Int) == 10) = false := by simp; omega
            have hv : Hd (L (s.extract k (k + 1)) = esc s[k]) := by
              unfold esc
              rw [if_neg c1, if_neg c2, if_neg c3, L_extract, L_drop s k hlt, Nat.add_sub_cancel_left]
              exact rfl
            have hz : Hd ((s.extract k (k + 1)).size = 1) := by rw [ByteArray.size_extract]; show _ = 1; omega
            clear c1 c2 c3
            go_wp2
            go_round
            case rel => exact ⟨k + 1, by omega, by go_num, _, rfl, by rw [ByteArray.size_append, unhide hz]; omega, unhide hE _ (unhide hv)⟩
            case measure => simp [intOf]; omega
    · have hF : Hd (t ++ { data := #[34] } = ⟨(quo (L s)).toArray⟩) := by
        apply L_inj
        rw [L_append, unhide hL, List.take_of_length_le (by rw [L_len]; omega), L_mk]
        exact rfl
      go_wp2
      go_ret
      exact ⟨ret_str (unhide hF), rfl⟩

theorem rquoted_any (s : ByteArray) (w : World) (hs : s.size ≤ 1000000) :
    Calls Tryd.prog 12 #[.string s] w fun e w' => e = .returned (.string ⟨(quo (L s)).toArray⟩) ∧ w' = w := by
  go_enter Tryd.func12, Tryd.ntmps12
  go_wp2_with (go_at_call 22; refine Calls.mono (quoted_any _ _ hs) ?_; rintro e w1 ⟨rfl, rfl⟩)
  go_ret
  exact ⟨rfl, rfl⟩

theorem sg_plain (c : UInt8) (r : List UInt8) (h : ¬ c.toNat = 92) : sg (c :: r) = (c, 1) := by
  cases r with
  | nil => show sg [_] = _; rw [sg, if_neg h]
  | cons d r => rw [sg, if_neg h]

/-- What was put between quotes is read as it was. -/
theorem txF_quo (t : List UInt8) : ∀ (l : List UInt8) (f : Nat), l.length < f → txF f (l.flatMap esc ++ 34 :: t) = some (l, (l.flatMap esc).length + 1) := by
  intro l
  induction l with
  | nil =>
    intro f hf
    obtain ⟨g, rfl⟩ : ∃ g, f = g + 1 := ⟨f - 1, by simp at hf; omega⟩
    rfl
  | cons c r ih =>
    intro f hf
    obtain ⟨g, rfl⟩ : ∃ g, f = g + 1 := ⟨f - 1, by simp at hf; omega⟩
    have hg : r.length < g := by simp at hf; omega
    have IH := ih g hg
    rw [List.flatMap_cons, List.append_assoc]
    by_cases c1 : c.toNat = 34
    · obtain rfl : c = 34 := UInt8.toNat.inj c1
      show txF (g + 1) (92 :: 34 :: (r.flatMap esc ++ 34 :: t)) = _
      rw [txF, if_neg (by decide), if_neg (by decide), show sg (92 :: 34 :: (r.flatMap esc ++ 34 :: t)) = (34, 2) from rfl]
      show (if (2 : Nat) = 0 then none else (txF g (r.flatMap esc ++ 34 :: t)).map fun p => ((34 : UInt8) :: p.1, 2 + p.2)) = _
      rw [if_neg (by decide), IH]
      simp [esc]
      omega
    · by_cases c2 : c.toNat = 92
      · obtain rfl : c = 92 := UInt8.toNat.inj c2
        show txF (g + 1) (92 :: 92 :: (r.flatMap esc ++ 34 :: t)) = _
        rw [txF, if_neg (by decide), if_neg (by decide), show sg (92 :: 92 :: (r.flatMap esc ++ 34 :: t)) = (92, 2) from rfl]
        show (if (2 : Nat) = 0 then none else (txF g (r.flatMap esc ++ 34 :: t)).map fun p => ((92 : UInt8) :: p.1, 2 + p.2)) = _
        rw [if_neg (by decide), IH]
        simp [esc]
        omega
      · by_cases c3 : c.toNat = 10
        · obtain rfl : c = 10 := UInt8.toNat.inj c3
          show txF (g + 1) (92 :: 110 :: (r.flatMap esc ++ 34 :: t)) = _
          rw [txF, if_neg (by decide), if_neg (by decide), show sg (92 :: 110 :: (r.flatMap esc ++ 34 :: t)) = (10, 2) from rfl]
          show (if (2 : Nat) = 0 then none else (txF g (r.flatMap esc ++ 34 :: t)).map fun p => ((10 : UInt8) :: p.1, 2 + p.2)) = _
          rw [if_neg (by decide), IH]
          simp [esc]
          omega
        · have he : esc c = [c] := by unfold esc; rw [if_neg c1, if_neg c2, if_neg c3]
          rw [he]
          show txF (g + 1) (c :: (r.flatMap esc ++ 34 :: t)) = _
          rw [txF, if_neg c3, if_neg c1, sg_plain c _ c2]
          show (if (1 : Nat) = 0 then none else (txF g (r.flatMap esc ++ 34 :: t)).map fun p => (c :: p.1, 1 + p.2)) = _
          rw [if_neg (by decide), IH]
          simp
          omega

theorem quo_lex (s T : ByteArray) (hT : L T = 97 :: 32 :: 34 :: ((L s).flatMap esc ++ 34 :: [98])) :
    T.size = ((L s).flatMap esc).length + 5 ∧ lexF (T.size + 1) T 0 = ([⟨1, ⟨#[97]⟩, 0, 0⟩, ⟨5, s, 0, 2⟩, ⟨1, ⟨#[98]⟩, 0, ((L s).flatMap esc).length + 4⟩], none) := by
  have hsz : T.size = ((L s).flatMap esc).length + 5 := by rw [← L_len, hT]; simp
  refine ⟨hsz, ?_⟩
  have d1 : (L T).drop 1 = 32 :: 34 :: ((L s).flatMap esc ++ 34 :: [98]) := by rw [hT]; rfl
  have d2 : (L T).drop 2 = 34 :: ((L s).flatMap esc ++ 34 :: [98]) := by rw [hT]; rfl
  have d3 : (L T).drop 3 = (L s).flatMap esc ++ 34 :: [98] := by rw [hT]; rfl
  have h1 : tokT T 0 = some (1, ⟨#[97]⟩, 0, 1) := name_one T 0 97 _ (by rw [List.drop_zero]; exact hT) (by decide) (by decide) (by intro x hx; cases hx; decide) (by decide)
  have hlen : (L s).length < T.size + 1 := by
    have : (L s).length ≤ ((L s).flatMap esc).length := by
      generalize L s = l
      induction l with
      | nil => simp
      | cons c r ih =>
        have : 1 ≤ (esc c).length := by unfold esc; split <;> (try split) <;> (try split) <;> simp
        rw [List.flatMap_cons, List.length_append, List.length_cons]
        omega
    omega
  have h2 : tokT T (1 + 1) = some (5, s, 0, ((L s).flatMap esc).length + 4) := by
    unfold tokT textT
    rw [at_drop d2]
    show (if dg 34 = true then _ else if nm 34 = true then _ else if (34 : UInt8).toNat = 34 then _ else _) = _
    rw [if_neg (by decide), if_neg (by decide), if_pos (by decide)]
    show (txF (T.size + 1) ((L T).drop 3)).map _ = _
    rw [d3, txF_quo [98] (L s) (T.size + 1) hlen]
    simp [mk_L]
    omega
  have d4 : (L T).drop (((L s).flatMap esc).length + 4) = [98] := by
    rw [show ((L s).flatMap esc).length + 4 = 3 + (((L s).flatMap esc).length + 1) by omega, ← List.drop_drop, d3, List.drop_append, List.drop_of_length_le (by omega), Nat.add_sub_cancel_left]
    rfl
  have h3 : tokT T (((L s).flatMap esc).length + 4 + 0) = some (1, ⟨#[98]⟩, 0, ((L s).flatMap esc).length + 4 + 0 + 1) := name_one T _ 98 [] d4 (by decide) (by decide) (by intro x hx; cases hx) (by decide)
  rw [hsz]
  rw [lex_tok _ T 0 0 _ _ _ _ (by rw [List.drop_zero, hT, skp, if_neg (by decide), if_neg (by decide)]) (by omega) h1]
  rw [lex_tok (((L s).flatMap esc).length + 4) T 1 1 _ _ _ _ (by rw [d1, skp, if_pos (by decide), skp, if_neg (by decide), if_neg (by decide)]) (by omega) h2]
  rw [lex_tok (((L s).flatMap esc).length + 3) T _ 0 _ _ _ _ (by rw [d4]; rfl) (by omega) h3]
  rw [lex_end (((L s).flatMap esc).length + 2) T _ (by omega)]

set_option maxHeartbeats 4000000 in
theorem texts_walk (s : ByteArray) (w : World) (he : Er w) (hs : s.size ≤ 9223372036854775807) :
    Calls Tryd.prog 5 #[.string s] w fun e w' => e = .returned (.bool true) ∧ Ext w w' := by
  have HA := hide (fun W (x : Ext w W) => awake_any W (he.on x))
  by_cases h5 : 1000 < s.size
  · go_enter Tryd.func5, Tryd.ntmps5
    go_wp2_with (go_at_call 10; refine Calls.mono (unhide HA _ (Ext.refl _)) ?_; rintro e w1 ⟨rfl, hw⟩; have X := hide hw; clear hw)
    go_ret
    exact ⟨rfl, unhide X⟩
  · obtain ⟨Q, hQ⟩ : ∃ Q : ByteArray, Q = ⟨(quo (L s)).toArray⟩ := ⟨_, rfl⟩
    have hLQ : L Q = quo (L s) := by rw [hQ, L_mk]
    have hq := flat_len (L s)
    rw [L_len] at hq
    have hQs : Q.size = ((L s).flatMap esc).length + 2 := by rw [← L_len, hLQ, quo]; simp
    have hT : L ((({ data := #[97, 32] } : ByteArray) ++ Q) ++ { data := #[98] }) = 97 :: 32 :: 34 :: ((L s).flatMap esc ++ 34 :: [98]) := by
      rw [L_append, L_append, hLQ, quo]
      show 97 :: 32 :: 34 :: (((L s).flatMap esc ++ [34]) ++ [98]) = _
      rw [List.append_assoc]
      rfl
    obtain ⟨hz, hl⟩ := quo_lex s _ hT
    have HT := hide (tokens_is _ _ w he (by omega) hl (by simp))
    have HR := hide (fun W => hQ ▸ rquoted_any s W (by omega))
    have hQ' : Q.size ≤ 2002 := by omega
    have hat : ((((L s).flatMap esc).length + 4 : Nat) : Int) = 2 + (Q.size : Int) := by omega
    rw [show ((L s).flatMap esc).length + 4 = 2 + Q.size by omega] at HT
    clear hz hl hT hQ hLQ hq hQs he hat
    go_enter Tryd.func5, Tryd.ntmps5
    go_wp2_with (first
      | (go_at_call 12; refine Calls.mono (unhide HR _) ?_; rintro e w1 ⟨rfl, rfl⟩)
      | (go_at_call 8; refine Calls.mono (unhide HT) ?_; rintro e w1 ⟨g, cap, rfl, hc, hw⟩; have c4 := hc 4 _ rfl; have c5 := hc 5 _ rfl; have c7 := hc 7 _ rfl; have c9 := hc 9 _ rfl; have c11 := hc 11 _ rfl; have X := hide hw; clear hc hw)
      | (go_at_call 10; refine Calls.mono (unhide HA _ (unhide X)) ?_; rintro e w2 ⟨rfl, hw⟩; have Y := hide ((unhide X).trans hw); clear hw))
    go_ret
    exact ⟨rfl, unhide Y⟩

end Go.Proofs.YtbncceknldjbjaaDoor
