/- The document's answer for words: its texts between quotes. -/
import Derived.Test.YtbncceknldjbjaaDoorLexRefB
set_option linter.unusedSimpArgs false
set_option linter.unusedVariables false
set_option maxRecDepth 10000
namespace Go.Proofs.YtbncceknldjbjaaDoor
open Go.RowKit

/-- What holds at the loop's head: what was told so far. -/
structure TP (s : ByteArray) (o k f : Nat) (acc : List UInt8) : Prop where
  lo : o + 1 ≤ k
  eq : txF (s.size + 1) ((L s).drop (o + 1)) = (txF f ((L s).drop k)).map fun p => (acc ++ p.1, (k - (o + 1)) + p.2)
  fuel : s.size - k < f
  len : acc.length ≤ k

theorem TP.start (s : ByteArray) (o : Nat) : TP s o (o + 1) (s.size + 1) [] := by
  refine ⟨Nat.le_refl _, ?_, by omega, Nat.zero_le _⟩
  simp

theorem TP.next {s : ByteArray} {o k f : Nat} {acc : List UInt8} (h : TP s o k f acc) (hk : k < s.size) (h10 : ¬ s[k].toNat = 10) (h34 : ¬ s[k].toNat = 34) (b : UInt8) (n : Nat) (hb : sg ((L s).drop k) = (b, n)) (h0 : ¬ n = 0) : TP s o (k + n) (f - 1) (acc ++ [b]) := by
  have hlo := h.lo
  have hf := h.fuel
  refine ⟨by omega, ?_, by omega, ?_⟩
  · obtain ⟨g, rfl⟩ : ∃ g, f = g + 1 := ⟨f - 1, by omega⟩
    rw [h.eq, L_drop s k hk, txF, if_neg h10, if_neg h34, ← L_drop s k hk, hb, if_neg h0, List.drop_drop, Nat.add_sub_cancel, Option.map_map]
    congr 1
    funext p
    simp only [Function.comp, List.append_assoc, List.singleton_append, Prod.mk.injEq, true_and]
    omega
  · rw [List.length_append]; have := h.len; simp; omega

theorem TP.stop {s : ByteArray} {o k f : Nat} {acc : List UInt8} (h : TP s o k f acc) (hk : s.size ≤ k) : txF (s.size + 1) ((L s).drop (o + 1)) = none := by
  rw [h.eq, L_end s k hk]
  cases f <;> rfl

theorem TP.bad {s : ByteArray} {o k f : Nat} {acc : List UInt8} (h : TP s o k f acc) (hk : k < s.size) (hb : s[k].toNat = 10 ∨ (¬ s[k].toNat = 34 ∧ (sg ((L s).drop k)).2 = 0)) : txF (s.size + 1) ((L s).drop (o + 1)) = none := by
  have hf := h.fuel
  obtain ⟨g, rfl⟩ : ∃ g, f = g + 1 := ⟨f - 1, by omega⟩
  rw [h.eq, L_drop s k hk, txF]
  by_cases h10 : s[k].toNat = 10
  · rw [if_pos h10]; rfl
  · rcases hb with hb | ⟨h34, h0⟩
    · exact absurd hb h10
    · rw [L_drop s k hk] at h0
      rw [if_neg h10, if_neg h34, if_pos h0]; rfl

theorem TP.good {s : ByteArray} {o k f : Nat} {acc : List UInt8} (h : TP s o k f acc) (hk : k < s.size) (h34 : s[k].toNat = 34) : txF (s.size + 1) ((L s).drop (o + 1)) = some (acc, k - o) := by
  have hf := h.fuel
  have hlo := h.lo
  obtain ⟨g, rfl⟩ : ∃ g, f = g + 1 := ⟨f - 1, by omega⟩
  rw [h.eq, L_drop s k hk, txF, if_neg (by omega), if_pos h34]
  simp
  omega

/-- What text answers. -/
def rtx (s : ByteArray) (o : Nat) : Value :=
  match txF (s.size + 1) ((L s).drop (o + 1)) with
  | some p => .tuple #[.string ⟨p.1.toArray⟩, .int .i64 ((o + 1 + p.2 : Nat) : Int), .bool true]
  | none => .tuple #[.string ⟨#[]⟩, .int .i64 0, .bool false]
theorem rtx_none {s : ByteArray} {o : Nat} (h : txF (s.size + 1) ((L s).drop (o + 1)) = none) : rtx s o = .tuple #[.string ⟨#[]⟩, .int .i64 0, .bool false] := by unfold rtx; rw [h]
theorem rtx_some {s : ByteArray} {o k : Nat} {t : ByteArray} (h : txF (s.size + 1) ((L s).drop (o + 1)) = some (L t, k - o)) (hk : o ≤ k) : rtx s o = .tuple #[.string t, .int .i64 ((k : Int) + 1), .bool true] := by
  unfold rtx
  rw [h]
  show Value.tuple #[.string ⟨(L t).toArray⟩, .int .i64 ((o + 1 + (k - o) : Nat) : Int), .bool true] = _
  rw [mk_L, show ((o + 1 + (k - o) : Nat) : Int) = (k : Int) + 1 by omega]

theorem sg_at1 {s : ByteArray} {k : Nat} (hk : k < s.size) (h : s.size ≤ k + 1) (h92 : s[k].toNat = 92) : (sg ((L s).drop k)).2 = 0 := by
  rw [L_drop s k hk, L_end s (k + 1) h]
  show (sg [_]).2 = 0
  rw [sg, if_pos h92]
theorem sg_at2 {s : ByteArray} {k : Nat} (hk : k < s.size) (h : k + 1 < s.size) (h92 : s[k].toNat = 92) : sg ((L s).drop k) = if s[k + 1].toNat = 34 ∨ s[k + 1].toNat = 92 then (s[k + 1], 2) else if s[k + 1].toNat = 110 then (10, 2) else (0, 0) := by
  rw [L_drop s k hk, L_drop s (k + 1) h]
  show sg (_ :: _ :: _) = _
  rw [sg, if_pos h92]
theorem sg_at0 {s : ByteArray} {k : Nat} (hk : k < s.size) (h92 : ¬ s[k].toNat = 92) : sg ((L s).drop k) = (s[k], 1) := by
  rw [L_drop s k hk]
  cases (L s).drop (k + 1) with
  | nil => show sg [_] = _; rw [sg, if_neg h92]
  | cons d r => rw [sg, if_neg h92]
theorem L_one (s : ByteArray) (k : Nat) (h : k < s.size) : L (s.extract k (k + 1)) = [s[k]] := by
  rw [L_extract, L_drop s k h, Nat.add_sub_cancel_left]
  rfl
theorem ret_val {a b : Value} (h : a = b) : Ending.returned a = .returned b := by rw [h]

set_option maxHeartbeats 4000000 in
theorem rtext_any (s : ByteArray) (o : Nat) (w : World) (ho : o < s.size) (hs : s.size ≤ 4000) :
    Calls Tryd.prog 20 #[.string s, .int .i64 o] w fun e w' => e = .returned (rtx s o) ∧ w' = w := by
  go_enter Tryd.func20, Tryd.ntmps20
  go_wp2
  go_loop [7, 8] (fun v i => ∃ (k f : Nat) (t : ByteArray), k ≤ s.size ∧ i = .int .i64 k ∧ v = .string t ∧ t.size ≤ 4000 ∧ Hd (TP s o k f (L t))) (fun _ i => s.size - (intOf i).toNat)
  case atStart => exact ⟨o + 1, s.size + 1, ⟨#[]⟩, by omega, by go_num, rfl, by decide, TP.start s o⟩
  case round =>
    obtain ⟨k, f, t, hk, rfl, rfl, ht, hI⟩ := hrel
    by_cases hlt : k < s.size
    · by_cases c34 : s[k].toNat = 34
      · have b1 : ((s[k].toNat : Int) == 34) = true := by simp; omega
        have R := hide (rtx_some ((unhide hI).good hlt c34) (by have := (unhide hI).lo; omega))
        clear c34
        go_wp2
        go_ret3
        exact ⟨ret_val (unhide R).symm, rfl⟩
      · have b1 : ((s[k].toNat : Int) == 34) = false := by simp; omega
        by_cases c10 : s[k].toNat = 10
        · have b2 : ((s[k].toNat : Int) == 10) = true := by simp; omega
          have R := hide (rtx_none ((unhide hI).bad hlt (Or.inl c10)))
          clear c34 c10
          go_wp2
          go_ret3
          exact ⟨ret_val (unhide R).symm, rfl⟩
        · have b2 : ((s[k].toNat : Int) == 10) = false := by simp; omega
          by_cases c92 : s[k].toNat = 92
          · have b3 : ((s[k].toNat : Int) == 92) = true := by simp; omega
            by_cases h1 : k + 1 < s.size
            · have e1 : ((k : Int) + 1 == (s.size : Int)) = false := by simp; omega
              have hS := sg_at2 hlt h1 c92
              by_cases d1 : s[k + 1].toNat = 34 ∨ s[k + 1].toNat = 92
              · rw [if_pos d1] at hS
                have hN := hide ((unhide hI).next hlt c10 c34 _ _ hS (by decide))
                have hz : Hd ((t ++ s.extract (k + 1) (k + 1 + 1)).size ≤ 4000 ∧ TP s o (k + 2) (f - 1) (L (t ++ s.extract (k + 1) (k + 1 + 1)))) := by
                  have := unhide hN
                  rw [L_append, L_one s (k + 1) h1]
                  refine ⟨?_, this⟩
                  have hl := this.len
                  rw [List.length_append, L_len] at hl
                  have hsz : (s.extract (k + 1) (k + 1 + 1)).size = 1 := by rw [← L_len, L_one s (k + 1) h1]; rfl
                  rw [ByteArray.size_append, hsz]
                  simp at hl
                  omega
                rcases (show (((s[k + 1].toNat : Int) == 34) = true) ∨ (((s[k + 1].toNat : Int) == 34) = false ∧ ((s[k + 1].toNat : Int) == 92) = true) by simp; omega) with g1 | ⟨g1, g2⟩
                all_goals
                  clear d1 c34 c10 c92 hS hN
                  go_wp2
                  go_round
                  case rel => exact ⟨k + 2, _, _, by omega, by go_num, rfl, (unhide hz).1, (unhide hz).2⟩
                  case measure => simp [intOf]; omega
              · rw [if_neg d1] at hS
                have g1 : ((s[k + 1].toNat : Int) == 34) = false := by simp; omega
                have g2 : ((s[k + 1].toNat : Int) == 92) = false := by simp; omega
                by_cases d2 : s[k + 1].toNat = 110
                · rw [if_pos d2] at hS
                  have g3 : ((s[k + 1].toNat : Int) == 110) = true := by simp; omega
                  have hN := hide ((unhide hI).next hlt c10 c34 _ _ hS (by decide))
                  have hz : Hd ((t ++ { data := #[10] }).size ≤ 4000 ∧ TP s o (k + 2) (f - 1) (L (t ++ { data := #[10] }))) := by
                    have := unhide hN
                    rw [L_append]
                    refine ⟨?_, this⟩
                    have hl := this.len
                    rw [List.length_append, L_len] at hl
                    rw [ByteArray.size_append]
                    show t.size + 1 ≤ 4000
                    simp at hl
                    omega
                  clear d1 d2 c34 c10 c92 hS hN
                  go_wp2
                  go_round
                  case rel => exact ⟨k + 2, _, _, by omega, by go_num, rfl, (unhide hz).1, (unhide hz).2⟩
                  case measure => simp [intOf]; omega
                · rw [if_neg d2] at hS
                  have g3 : ((s[k + 1].toNat : Int) == 110) = false := by simp; omega
                  have R := hide (rtx_none ((unhide hI).bad hlt (Or.inr ⟨c34, by rw [hS]⟩)))
                  clear d1 d2 c34 c10 c92 hS
                  go_wp2
                  go_ret3
                  exact ⟨ret_val (unhide R).symm, rfl⟩
            · have e1 : ((k : Int) + 1 == (s.size : Int)) = true := by simp; omega
              have R := hide (rtx_none ((unhide hI).bad hlt (Or.inr ⟨c34, sg_at1 hlt (by omega) c92⟩)))
              clear c34 c10 c92
              go_wp2
              go_ret3
              exact ⟨ret_val (unhide R).symm, rfl⟩
          · have b3 : ((s[k].toNat : Int) == 92) = false := by simp; omega
            have hN := hide ((unhide hI).next hlt c10 c34 _ _ (sg_at0 hlt c92) (by decide))
            have hz : Hd ((t ++ s.extract k (k + 1)).size ≤ 4000 ∧ TP s o (k + 1) (f - 1) (L (t ++ s.extract k (k + 1)))) := by
              have := unhide hN
              rw [L_append, L_one s k hlt]
              refine ⟨?_, this⟩
              have hl := this.len
              rw [List.length_append, L_len] at hl
              have hsz : (s.extract k (k + 1)).size = 1 := by rw [← L_len, L_one s k hlt]; rfl
              rw [ByteArray.size_append, hsz]
              simp at hl
              omega
            clear c34 c10 c92 hN
            go_wp2
            go_round
            case rel => exact ⟨k + 1, _, _, by omega, by go_num, rfl, (unhide hz).1, (unhide hz).2⟩
            case measure => simp [intOf]; omega
    · have R := hide (rtx_none ((unhide hI).stop (by omega)))
      go_wp2
      go_ret3
      exact ⟨ret_val (unhide R).symm, rfl⟩

end Go.Proofs.YtbncceknldjbjaaDoor
