/- What the document's own reading of a number's text gives: the same number as the program's, or none. -/
import Derived.Test.YtglpdjkddekblabLawBits
import Derived.Deep.QuietTactic
import Derived.BigQuiet
set_option linter.unusedSimpArgs false
namespace Go.Proofs.Ytglpdjkddekblab
open Go.RowKit

/-- A byte's digit, as the document's answer tells it. -/
def digI (c : UInt8) : Int := match digV c with | some d => (d : Int) | none => -1

theorem ret_i64 {a b : Int} (h : a = b) : Ending.returned (.int .i64 a) = .returned (.int .i64 b) := by rw [h]

theorem digit_any (c : UInt8) (w : World) :
    Calls Try.prog 33 #[.int .u8 c.toNat] w fun e w' => e = .returned (.int .i64 (digI c)) ∧ w' = w := by
  have h := c.toNat_lt
  have hd : digV c = if 48 ≤ c.toNat ∧ c.toNat ≤ 57 then some (c.toNat - 48) else if 97 ≤ c.toNat ∧ c.toNat ≤ 102 then some (c.toNat - 87) else none := rfl
  have K := hide hd
  clear hd
  rcases (show c.toNat < 48 ∨ (48 ≤ c.toNat ∧ c.toNat ≤ 57) ∨ (57 < c.toNat ∧ c.toNat < 97) ∨ (97 ≤ c.toNat ∧ c.toNat ≤ 102) ∨ 102 < c.toNat by omega) with h1 | ⟨h1, h2⟩ | ⟨h1, h2⟩ | ⟨h1, h2⟩ | h1
  · go_enter Try.func33, Try.ntmps33
    go_wp2
    go_ret
    have e : digV c = none := by rw [unhide K, if_neg (by omega), if_neg (by omega)]
    exact ⟨ret_i64 (by unfold digI; rw [e]), rfl⟩
  · go_enter Try.func33, Try.ntmps33
    go_wp2
    go_ret
    have e : digV c = some (c.toNat - 48) := by rw [unhide K, if_pos (by omega)]
    exact ⟨ret_i64 (by unfold digI; rw [e]; simp only; omega), rfl⟩
  · go_enter Try.func33, Try.ntmps33
    go_wp2
    go_ret
    have e : digV c = none := by rw [unhide K, if_neg (by omega), if_neg (by omega)]
    exact ⟨ret_i64 (by unfold digI; rw [e]), rfl⟩
  · go_enter Try.func33, Try.ntmps33
    go_wp2
    go_ret
    have e : digV c = some (c.toNat - 87) := by rw [unhide K, if_neg (by omega), if_pos (by omega)]
    exact ⟨ret_i64 (by unfold digI; rw [e]; simp only; omega), rfl⟩
  · go_enter Try.func33, Try.ntmps33
    go_wp2
    go_ret
    have e : digV c = none := by rw [unhide K, if_neg (by omega), if_neg (by omega)]
    exact ⟨ret_i64 (by unfold digI; rw [e]), rfl⟩

theorem cxparse_short (s : ByteArray) (w : World) (h : s.size ≠ 35) :
    Calls Try.prog 17 #[.string s] w fun e w' => e = .returned (.tuple #[.complex .f64 0 0, .bool false]) ∧ w' = w := by
  have h' : ((s.size : Int) != 35) = true := by simp; omega
  go_enter Try.func17, Try.ntmps17
  go_wp2
  go_ret2
  exact ⟨rfl, rfl⟩

/-- An array of two words in memory. -/
structure Two (w : World) (g a b : Nat) : Prop where
  c0 : w.cell? ⟨g, 0, none⟩ = some (.int .u64 (a : Int))
  c1 : w.cell? ⟨g, 1, none⟩ = some (.int .u64 (b : Int))
  f0 : w.frozen? ⟨g, 0, none⟩ = false
  f1 : w.frozen? ⟨g, 1, none⟩ = false

theorem two_set0 {w : World} {g a b : Nat} (h : Two w g a b) (c : Nat) : Two (w.setCell ⟨g, 0, none⟩ (.int .u64 (c : Int))) g c b :=
  ⟨World.cell?_setCell_same _ _ _ h.c0, by rw [World.cell?_setCell_other _ _ _ _ (by simp)]; exact h.c1, by simp [h.f0], by simp [h.f1]⟩
theorem two_set1 {w : World} {g a b : Nat} (h : Two w g a b) (c : Nat) : Two (w.setCell ⟨g, 1, none⟩ (.int .u64 (c : Int))) g a c :=
  ⟨by rw [World.cell?_setCell_other _ _ _ _ (by simp)]; exact h.c0, World.cell?_setCell_same _ _ _ h.c1, by simp [h.f0], by simp [h.f1]⟩

theorem two_new (w : World) (t : TypeId) : Two (w.alloc (.cells #[.int .u64 0, .int .u64 0] t)) w.heap.size 0 0 :=
  ⟨by simp, by simp, by simp, by simp⟩

/-- How far both words are read. -/
def Got (s : ByteArray) (k : Int) (a b : Nat) : Prop := (k = 0 ∧ a = 0 ∧ b = 0) ∨ (k = 1 ∧ rdS (s.extract 1 17) = some a ∧ b = 0) ∨ (k = 2 ∧ rdS (s.extract 1 17) = some a ∧ rdS (s.extract 18 34) = some b)

theorem seg_snoc (s : ByteArray) (p e j : Nat) (h : p + j < e) (he : e ≤ s.size) : (s.extract p e).data.toList.take (j + 1) = (s.extract p e).data.toList.take j ++ [s[p + j]'(by omega)] := by
  rw [data_extract, List.take_take, List.take_take, show min (j + 1) (e - p) = j + 1 by omega, show min j (e - p) = j by omega, List.take_add_one, List.getElem?_drop]
  congr 1
  have : s.data.toList[p + j]? = some (s[p + j]'(by omega)) := by
    rw [List.getElem?_eq_getElem (by show p + j < s.data.toList.length; rw [Array.length_toList]; show p + j < s.size; omega)]; rfl
  rw [this]; rfl

theorem pr_none1 {s : ByteArray} (h : rdS (s.extract 1 17) = none) : pr s = none := by
  unfold pr; split
  · rw [h]; rfl
  · rfl
theorem pr_none2 {s : ByteArray} (h : rdS (s.extract 18 34) = none) : pr s = none := by
  unfold pr; split
  · rw [h]; cases rdS (s.extract 1 17) <;> rfl
  · rfl

theorem part_of_ok {x : Nat} (hx : Wd x) (h : neg0 x = false) : part x = x := by
  cases hn : nought x with
  | false => exact part_of_not hn
  | true =>
    unfold neg0 at h
    rw [hn, Bool.true_and, decide_eq_false_iff_not] at h
    rw [part_of_nought hn]
    rw [nought_eq, decide_eq_true_eq] at hn
    unfold Wd at hx
    omega

theorem cl_of_ok {a b : Nat} (ha : Wd a) (hb : Wd b) (h : okB a b = true) : cl1 a b = a ∧ cl2 a b = b := by
  unfold okB at h
  simp only [Bool.and_eq_true, Bool.not_eq_true'] at h
  obtain ⟨⟨f1, n1⟩, f2, n2⟩ := h
  exact ⟨by rw [cl_of1 f1 f2, part_of_ok ha n1], by rw [cl_of2 f1 f2, part_of_ok hb n2]⟩

/-- A text of two words' digits is their own text just if its marks stand. -/
theorem txt_marks {s : ByteArray} {a b : Nat} (hs : s.size = 35) (h1 : rdS (s.extract 1 17) = some a) (h2 : rdS (s.extract 18 34) = some b) (hm : marks s = true) : txt a b = s := by
  obtain ⟨z1, z2⟩ := ext_size s hs
  have e1 := hx_rd (acc := 0) h1
  have e2 := hx_rd (acc := 0) h2
  rw [Array.length_toList, show (s.extract 1 17).data.size = 16 from z1] at e1
  rw [Array.length_toList, show (s.extract 18 34).data.size = 16 from z2] at e2
  rw [data_extract] at e1 e2
  apply ByteArray.ext
  apply Array.toList_inj.1
  rw [txt_data, e1, e2]
  unfold marks at hm
  simp only [Bool.and_eq_true, beq_iff_eq] at hm
  obtain ⟨⟨⟨_, m0⟩, m1⟩, m2⟩ := hm
  have hl : s.data.toList.length = 35 := by rw [Array.length_toList]; exact hs
  rw [← Array.getElem?_toList] at m0 m1 m2
  generalize s.data.toList = l at hl m0 m1 m2
  have d0 : l = 60 :: l.drop 1 := by
    cases l with
    | nil => simp at hl
    | cons x r => simp at m0; simp [m0]
  have d1 : l.drop 17 = 44 :: l.drop 18 := by
    rw [List.drop_eq_getElem_cons (by omega)]
    rw [List.getElem?_eq_getElem (by omega)] at m1
    simp at m1; rw [m1]
  have d2 : l.drop 34 = [62] := by
    rw [List.drop_eq_getElem_cons (by omega)]
    rw [List.getElem?_eq_getElem (by omega)] at m2
    simp at m2; rw [m2, List.drop_of_length_le (by omega)]
  have s1 : l.drop 1 = (l.drop 1).take 16 ++ l.drop 17 := by
    conv => lhs; rw [← List.take_append_drop 16 (l.drop 1)]
    rw [List.drop_drop]
  have s2 : l.drop 18 = (l.drop 18).take 16 ++ l.drop 34 := by
    conv => lhs; rw [← List.take_append_drop 16 (l.drop 18)]
    rw [List.drop_drop]
  conv => rhs; rw [d0, s1, d1, s2, d2]

theorem marks_txt (u v : Nat) : marks (txt u v) = true := by
  have hl := txt_data u v
  have g : ∀ i : Nat, (txt u v).data[i]? = (txt u v).data.toList[i]? := fun i => by simp
  unfold marks
  rw [txt_size, g, g, g, hl]
  have e1 : (60 :: (hx 16 u ++ 44 :: (hx 16 v ++ [62])))[17]? = some 44 := by
    rw [List.getElem?_cons_succ, List.getElem?_append_right (by rw [hx_length]; omega), hx_length]; rfl
  have e2 : (60 :: (hx 16 u ++ 44 :: (hx 16 v ++ [62])))[34]? = some 62 := by
    rw [List.getElem?_cons_succ, List.getElem?_append_right (by rw [hx_length]; omega), hx_length, show 33 - 16 = 16 + 1 from rfl, List.getElem?_cons_succ, List.getElem?_append_right (by rw [hx_length]; omega), hx_length]; rfl
  rw [e1, e2]; rfl

theorem toList_inj {a b : ByteArray} (h : a.toList = b.toList) : a = b := by
  rw [ByteArray.toList_eq, ByteArray.toList_eq] at h
  exact ByteArray.ext (Array.toList_inj.1 h)

set_option maxHeartbeats 2000000 in
theorem cxparse_long (s : ByteArray) (w : World) (h : s.size = 35) :
    Calls Try.prog 17 #[.string s] w fun e w' => e = .returned (.tuple #[.complex .f64 ((pr s).getD (0, 0)).1 ((pr s).getD (0, 0)).2, .bool (pr s).isSome]) ∧ Below w.heap.size w w' := by
  have t0 := two_new w 54
  have b0 : Below w.heap.size w (w.alloc (.cells #[.int .u64 0, .int .u64 0] 54)) := (Below.refl _ _).alloc (Nat.le_refl _) _
  go_enter Try.func17, Try.ntmps17
  go_wp2
  go_loopw [5] (fun i wr => ∃ (k : Int) (a b : Nat), i = .int .i64 k ∧ Two wr w.heap.size a b ∧ Below w.heap.size w wr ∧ Hd (Got s k a b)) (fun i _ => 2 - (intOf i).toNat)
  case atStart => exact ⟨0, 0, 0, rfl, t0, b0, .inl ⟨rfl, rfl, rfl⟩⟩
  case round =>
    obtain ⟨k, a, b, rfl, ht, hb, hg⟩ := hrel
    obtain ⟨hc0, hc1, hf0, hf1⟩ := ht
    rcases unhide hg with ⟨rfl, rfl, rfl⟩ | ⟨rfl, h1, rfl⟩ | ⟨rfl, h1, h2⟩
    · go_wp2
      go_loopw [6] (fun i wr => ∃ j acc : Nat, j ≤ 16 ∧ i = .int .i64 j ∧ Two wr w.heap.size acc 0 ∧ Below w.heap.size w wr ∧ Hd (rdL 0 ((s.extract 1 17).data.toList.take j) = some acc)) (fun i _ => 16 - (intOf i).toNat)
      case atStart => exact ⟨0, 0, by omega, rfl, ⟨hc0, hc1, hf0, hf1⟩, hb, rfl⟩
      case round =>
        obtain ⟨j, acc, hj, rfl, ht, hb, hm⟩ := hrel
        have ht' := hide ht
        obtain ⟨hc0, hc1, hf0, hf1⟩ := ht
        by_cases hlt : j < 16
        · have hbd := rd_bound (unhide hm) (by omega)
          have hsn := seg_snoc s 1 17 j (by omega) (by omega)
          have hrd : rdL 0 ((s.extract 1 17).data.toList.take (j + 1)) = (digV (s[1 + j]'(by omega))).bind fun d => some (acc * 16 + d) := by
            rw [hsn, rd_snoc, unhide hm, Option.bind_some]
          have S := hide hrd
          clear hsn hrd
          cases hv : digV (s[1 + j]'(by omega)) with
          | none =>
            have hI : digI (s[1 + j]'(by omega)) = -1 := by unfold digI; rw [hv]
            have e : pr s = none := by
              have : rdS (s.extract 1 17) = none := rd_none_take (k := j + 1) (by have := unhide S; rw [hv] at this; exact this)
              exact pr_none1 this
            have E := hide e
            clear hv e hm S
            go_wp2_with (go_at_call 33; refine (digit_any _ _).mono ?_; rintro e w' ⟨rfl, hw⟩; obtain rfl := hw.symm)
            go_ret2
            exact ⟨ret_cb (by rw [unhide E]; rfl) (by rw [unhide E]; rfl) (by rw [unhide E]; rfl), hb⟩
          | some d =>
            have hd16 := (digV_some hv).1
            have hI : digI (s[1 + j]'(by omega)) = (d : Int) := by unfold digI; rw [hv]
            have hor := or_digit acc d hbd hd16
            have e : rdL 0 ((s.extract 1 17).data.toList.take (j + 1)) = some (acc * 16 + d) := by
              have := unhide S; rw [hv] at this; exact this
            have E := hide e
            clear hv e hm S
            go_wp2_with (go_at_call 33; refine (digit_any _ _).mono ?_; rintro e w' ⟨rfl, hw⟩; obtain rfl := hw.symm)
            go_roundw
            case rel => exact ⟨j + 1, acc * 16 + d, by omega, by go_num, by have := two_set0 (unhide ht') (acc * 16 + d); simpa using this, hb.setCell (Nat.le_refl _) _, unhide E⟩
            case measure => simp [intOf]; omega
        · have hj16 : j = 16 := by omega
          subst hj16
          have e : rdS (s.extract 1 17) = some acc := by
            have := unhide hm
            rw [List.take_of_length_le (by rw [Array.length_toList]; exact Nat.le_of_eq (ext_size s h).1)] at this
            exact this
          have E := hide e
          clear e hm
          go_wp2
          go_roundw
          case rel => exact ⟨1, acc, 0, rfl, unhide ht', hb, .inr (.inl ⟨rfl, unhide E, rfl⟩)⟩
          case measure => decide
    · go_wp2
      go_loopw [6] (fun i wr => ∃ j acc : Nat, j ≤ 16 ∧ i = .int .i64 j ∧ Two wr w.heap.size a acc ∧ Below w.heap.size w wr ∧ Hd (rdL 0 ((s.extract 18 34).data.toList.take j) = some acc)) (fun i _ => 16 - (intOf i).toNat)
      case atStart => exact ⟨0, 0, by omega, rfl, ⟨hc0, hc1, hf0, hf1⟩, hb, rfl⟩
      case round =>
        obtain ⟨j, acc, hj, rfl, ht, hb, hm⟩ := hrel
        have ht' := hide ht
        obtain ⟨hc0, hc1, hf0, hf1⟩ := ht
        by_cases hlt : j < 16
        · have hbd := rd_bound (unhide hm) (by omega)
          have hsn := seg_snoc s 18 34 j (by omega) (by omega)
          have hrd : rdL 0 ((s.extract 18 34).data.toList.take (j + 1)) = (digV (s[18 + j]'(by omega))).bind fun d => some (acc * 16 + d) := by
            rw [hsn, rd_snoc, unhide hm, Option.bind_some]
          have S := hide hrd
          clear hsn hrd
          cases hv : digV (s[18 + j]'(by omega)) with
          | none =>
            have hI : digI (s[18 + j]'(by omega)) = -1 := by unfold digI; rw [hv]
            have e : pr s = none := by
              have : rdS (s.extract 18 34) = none := rd_none_take (k := j + 1) (by have := unhide S; rw [hv] at this; exact this)
              exact pr_none2 this
            have E := hide e
            clear hv e hm S
            go_wp2_with (go_at_call 33; refine (digit_any _ _).mono ?_; rintro e w' ⟨rfl, hw⟩; obtain rfl := hw.symm)
            go_ret2
            exact ⟨ret_cb (by rw [unhide E]; rfl) (by rw [unhide E]; rfl) (by rw [unhide E]; rfl), hb⟩
          | some d =>
            have hd16 := (digV_some hv).1
            have hI : digI (s[18 + j]'(by omega)) = (d : Int) := by unfold digI; rw [hv]
            have hor := or_digit acc d hbd hd16
            have e : rdL 0 ((s.extract 18 34).data.toList.take (j + 1)) = some (acc * 16 + d) := by
              have := unhide S; rw [hv] at this; exact this
            have E := hide e
            clear hv e hm S
            go_wp2_with (go_at_call 33; refine (digit_any _ _).mono ?_; rintro e w' ⟨rfl, hw⟩; obtain rfl := hw.symm)
            go_roundw
            case rel => exact ⟨j + 1, acc * 16 + d, by omega, by go_num, by have := two_set1 (unhide ht') (acc * 16 + d); simpa using this, hb.setCell (Nat.le_refl _) _, unhide E⟩
            case measure => simp [intOf]; omega
        · have hj16 : j = 16 := by omega
          subst hj16
          have e : rdS (s.extract 18 34) = some acc := by
            have := unhide hm
            rw [List.take_of_length_le (by rw [Array.length_toList]; exact Nat.le_of_eq (ext_size s h).2)] at this
            exact this
          have E := hide e
          clear e hm
          go_wp2
          go_roundw
          case rel => exact ⟨2, a, acc, rfl, unhide ht', hb, .inr (.inr ⟨rfl, h1, unhide E⟩)⟩
          case measure => decide
    · have wa : Wd a := rd_wd h1 (by rw [Array.length_toList]; exact Nat.le_of_eq (ext_size s h).1)
      have wb : Wd b := rd_wd h2 (by rw [Array.length_toList]; exact Nat.le_of_eq (ext_size s h).2)
      cases hO : okB a b with
      | false =>
        have e : pr s = none := by
          unfold pr; split
          · rw [h1, h2]; simp only [Option.bind_some, hO]; rfl
          · rfl
        have E := hide e
        clear e hg h1 h2
        go_wp2
        go_quiet (fail)
        go_wp2_with (go_at_call 8; refine (rok_any _ _ _ ?_ ?_).mono ?_; assumption; assumption; rintro e w' ⟨rfl, hw⟩; obtain rfl := hw.symm)
        go_ret2
        exact ⟨ret_cb (by rw [unhide E]; rfl) (by rw [unhide E]; rfl) (by rw [unhide E]; rfl), below_drewN hb _⟩
      | true =>
        obtain ⟨i1, i2⟩ := cl_of_ok wa wb hO
        cases hM : marks s with
        | false =>
          have e := not_marks hM
          have hq : ((txt a b).toList == s.toList) = false := by
            rw [beq_eq_false_iff_ne]
            intro k
            have k' : txt a b = s := toList_inj k
            rw [← k', marks_txt] at hM
            cases hM
          have E := hide e
          clear e hg h1 h2
          go_wp2
          go_quiet (fail)
          go_wp2_with (first | (go_at_call 8; refine (rok_any _ _ _ ?_ ?_).mono ?_; assumption; assumption; rintro e w' ⟨rfl, hw⟩; obtain rfl := hw.symm) | (go_at_call 15; refine (cxtext_any _ _ _ ?_ ?_).mono ?_; assumption; assumption; rintro e w' ⟨rfl, hw⟩; obtain rfl := hw.symm))
          go_ret2
          exact ⟨ret_cb (by rw [unhide E]; rfl) (by rw [unhide E]; rfl) (by rw [unhide E]; rfl), below_drewN hb _⟩
        | true =>
          have e : pr s = some (a, b) := by
            unfold pr; rw [if_pos hM, h1, h2]; simp only [Option.bind_some, hO, if_true]
          have hq : ((txt a b).toList == s.toList) = true := by
            rw [txt_marks h h1 h2 hM]; simp
          have E := hide e
          clear e hg h1 h2
          go_wp2
          go_quiet (fail)
          go_wp2_with (first | (go_at_call 8; refine (rok_any _ _ _ ?_ ?_).mono ?_; assumption; assumption; rintro e w' ⟨rfl, hw⟩; obtain rfl := hw.symm) | (go_at_call 15; refine (cxtext_any _ _ _ ?_ ?_).mono ?_; assumption; assumption; rintro e w' ⟨rfl, hw⟩; obtain rfl := hw.symm))
          go_ret2
          exact ⟨ret_cb (by rw [unhide E]; rfl) (by rw [unhide E]; rfl) (by rw [unhide E]; rfl), below_drewN hb _⟩

theorem cxparse_any (s : ByteArray) (w : World) :
    Calls Try.prog 17 #[.string s] w fun e w' => e = .returned (.tuple #[.complex .f64 ((pr s).getD (0, 0)).1 ((pr s).getD (0, 0)).2, .bool (pr s).isSome]) ∧ Below w.heap.size w w' := by
  by_cases h : s.size = 35
  · exact cxparse_long s w h
  · refine (cxparse_short s w h).mono ?_
    rintro e w' ⟨rfl, rfl⟩
    have hm : marks s = false := by
      unfold marks
      have : (s.size == 35) = false := by simpa using h
      rw [this]; rfl
    have e := not_marks hm
    exact ⟨ret_cb (by rw [e]; rfl) (by rw [e]; rfl) (by rw [e]; rfl), Below.refl _ _⟩

end Go.Proofs.Ytglpdjkddekblab
