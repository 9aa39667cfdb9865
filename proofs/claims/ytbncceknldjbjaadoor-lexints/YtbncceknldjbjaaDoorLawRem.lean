/- The walk of the law LexRemarks: what stands behind a mark of a remark in a line is not there; the next line is. -/
import Derived.Test.YtbncceknldjbjaaDoorLexLaw
set_option linter.unusedSimpArgs false
set_option linter.unusedVariables false
set_option maxRecDepth 10000
namespace Go.Proofs.YtbncceknldjbjaaDoor
open Go.RowKit

theorem lex_tok (f : Nat) (s : ByteArray) (o j : Nat) (k : Int) (t : ByteArray) (n : Int) (m : Nat) (hj : skp false ((L s).drop o) = j) (hlt : o + j < s.size) (ht : tokT s (o + j) = some (k, t, n, m)) :
    lexF (f + 1) s o = (⟨k, t, n, o + j⟩ :: (lexF f s m).1, (lexF f s m).2) := by
  rw [lexF, hj, if_neg (by omega), ht]
theorem lex_end (f : Nat) (s : ByteArray) (o : Nat) (h : s.size ≤ o) : lexF (f + 1) s o = ([], none) := by
  rw [lexF, if_pos (by omega)]
theorem lex_bad (f : Nat) (s : ByteArray) (o j : Nat) (hj : skp false ((L s).drop o) = j) (hlt : o + j < s.size) (ht : tokT s (o + j) = none) : lexF (f + 1) s o = ([], some (o + j)) := by
  rw [lexF, hj, if_neg (by omega), ht]

theorem at_drop {s : ByteArray} {o : Nat} {c : UInt8} {r : List UInt8} (h : (L s).drop o = c :: r) : (L s)[o]? = some c := by
  have := congrArg (fun l => l[0]?) h
  simpa using this

/-- A name of one letter. -/
theorem name_one (s : ByteArray) (o : Nat) (c : UInt8) (r : List UInt8) (h : (L s).drop o = c :: r) (hd : dg c = false) (hn : nm c = true) (hr : ∀ x ∈ r.head?, nm x = false) (hw : wordL [c] = false) : tokT s o = some (1, ⟨#[c]⟩, 0, o + 1) := by
  have hrun : run nm (c :: r) = 1 := by
    rw [run, if_pos hn]
    cases r with
    | nil => rfl
    | cons x t => rw [run, hr x rfl]; rfl
  unfold tokT nameT
  rw [at_drop h]
  show (if dg c = true then _ else _) = _
  rw [hd, if_neg (by decide), hn, if_pos rfl, h, hrun, if_neg (by decide)]
  have hx : s.extract o (o + 1) = ⟨#[c]⟩ := by
    apply L_inj
    rw [L_extract, h, Nat.add_sub_cancel_left]
    rfl
  show some ((if wordL [c] = true then 2 else 1 : Int), _, _, _) = _
  rw [hw, hx]
  rfl

theorem skp_line : ∀ (l t : List UInt8), (∀ c ∈ l, c.toNat ≠ 10) → skp true (l ++ 10 :: t) = l.length + 1 + skp false t
  | [], t, _ => by
    rw [List.nil_append, skp, if_pos (by decide), List.length_nil]
  | c :: r, t, h => by
    rw [List.cons_append, skp, if_neg (h c (by simp)), skp_line r t (fun x hx => h x (by simp [hx])), List.length_cons]
    omega

theorem remark_lex (s T : ByteArray) (hT : L T = 97 :: 32 :: 35 :: (L s ++ [10, 98])) (h : ∀ c ∈ L s, c.toNat ≠ 10) :
    T.size = s.size + 5 ∧ lexF (T.size + 1) T 0 = ([⟨1, ⟨#[97]⟩, 0, 0⟩, ⟨1, ⟨#[98]⟩, 0, s.size + 4⟩], none) := by
  have hsz : T.size = s.size + 5 := by rw [← L_len, hT]; simp [L_len]
  refine ⟨hsz, ?_⟩
  rw [hsz]
  have h1 : tokT T 0 = some (1, ⟨#[97]⟩, 0, 1) := name_one T 0 97 _ (by rw [List.drop_zero]; exact hT) (by decide) (by decide) (by intro x hx; cases hx; decide) (by decide)
  have d1 : (L T).drop 1 = 32 :: 35 :: (L s ++ [10, 98]) := by rw [hT]; rfl
  have k1 : skp false ((L T).drop 1) = s.size + 3 := by
    rw [d1, skp, if_pos (by decide), skp, if_neg (by decide), if_pos (by decide), skp_line _ _ h, L_len]
    show 1 + (1 + (s.size + 1 + 0)) = _
    omega
  have d2 : (L T).drop (1 + (s.size + 3)) = [98] := by
    rw [← List.drop_drop, d1]
    show List.drop (s.size + 1 + 1 + 1) _ = _
    rw [List.drop_succ_cons, List.drop_succ_cons, List.drop_append, List.drop_of_length_le (by rw [L_len]; omega), L_len, Nat.add_sub_cancel_left]
    rfl
  have h2 : tokT T (1 + (s.size + 3)) = some (1, ⟨#[98]⟩, 0, 1 + (s.size + 3) + 1) := name_one T _ 98 [] d2 (by decide) (by decide) (by intro x hx; cases hx) (by decide)
  rw [lex_tok (s.size + 5) T 0 0 _ _ _ _ (by rw [List.drop_zero, hT, skp, if_neg (by decide), if_neg (by decide)]) (by omega) h1]
  rw [lex_tok (s.size + 4) T 1 _ _ _ _ _ k1 (by omega) h2]
  rw [lex_end (s.size + 3) T _ (by omega)]
  simp
  omega

set_option maxHeartbeats 4000000 in
theorem remarks_walk (s : ByteArray) (w : World) (he : Er w) (hs : s.size ≤ 9223372036854775807) :
    Calls Tryd.prog 7 #[.string s] w fun e w' => e = .returned (.bool true) ∧ Ext w w' := by
  have HA := hide (fun W (x : Ext w W) => awake_any W (he.on x))
  have HE := hide he
  clear he
  go_enter Tryd.func7, Tryd.ntmps7
  go_wp2
  go_loop [3] (fun i => ∃ k : Nat, k ≤ s.size ∧ i = .int .i64 k ∧ Hd (∀ c ∈ (L s).take k, c.toNat ≠ 10)) (fun i => s.size - (intOf i).toNat)
  case atStart => exact ⟨0, Nat.zero_le _, rfl, fun c hc => by simp at hc⟩
  case round =>
    obtain ⟨k, hk, rfl, hA⟩ := hrel
    by_cases hlt : k < s.size
    · by_cases h10 : s[k].toNat = 10
      · have b1 : ((s[k].toNat : Int) == 10) = true := by simp; omega
        clear h10
        go_wp2_with (go_at_call 10; refine Calls.mono (unhide HA _ (Ext.refl _)) ?_; rintro e w1 ⟨rfl, hw⟩; have X := hide hw; clear hw)
        go_ret
        exact ⟨rfl, unhide X⟩
      · have b1 : ((s[k].toNat : Int) == 10) = false := by simp; omega
        have hA' : Hd (∀ c ∈ (L s).take (k + 1), c.toNat ≠ 10) := by
          intro c hc
          rw [List.take_succ_eq_append_getElem (by rw [L_len]; exact hlt)] at hc
          rcases List.mem_append.1 hc with hc | hc
          · exact unhide hA c hc
          · rw [List.mem_singleton.1 hc]; exact h10
        clear h10
        go_wp2
        go_round
        case rel => exact ⟨k + 1, by omega, by go_num, hA'⟩
        case measure => simp [intOf]; omega
    · have hall : ∀ c ∈ L s, c.toNat ≠ 10 := by
        have := unhide hA
        rw [List.take_of_length_le (by rw [L_len]; omega)] at this
        exact this
      by_cases h5 : 500 < s.size
      · go_wp2_with (go_at_call 10; refine Calls.mono (unhide HA _ (Ext.refl _)) ?_; rintro e w1 ⟨rfl, hw⟩; have X := hide hw; clear hw)
        go_ret
        exact ⟨rfl, unhide X⟩
      · have hT : L ((({ data := #[97, 32, 35] } : ByteArray) ++ s) ++ { data := #[10, 98] }) = 97 :: 32 :: 35 :: (L s ++ [10, 98]) := by
          rw [L_append, L_append]; rfl
        obtain ⟨hz, hl⟩ := remark_lex s _ hT hall
        have HT := hide (tokens_is _ _ w (unhide HE) (by omega) hl (by simp))
        clear hz hl hT hall
        go_wp2_with (first
          | (go_at_call 8; refine Calls.mono (unhide HT) ?_; rintro e w1 ⟨g, cap, rfl, hc, hw⟩; have c5 := hc 5 _ rfl; have c7 := hc 7 _ rfl; have X := hide hw; clear hc hw)
          | (go_at_call 10; refine Calls.mono (unhide HA _ (unhide X)) ?_; rintro e w2 ⟨rfl, hw⟩; have Y := hide ((unhide X).trans hw); clear hw))
        go_ret
        exact ⟨rfl, unhide Y⟩

end Go.Proofs.YtbncceknldjbjaaDoor
