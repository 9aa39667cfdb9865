/- Words of digits, perhaps with an i behind them. -/
import Derived.Test.YtbncceknldjbjaaDoorLexTok
import Derived.Lib.ConvBytes
set_option linter.unusedSimpArgs false
set_option linter.unusedVariables false
set_option maxRecDepth 10000
namespace Go.Proofs.YtbncceknldjbjaaDoor
open Go.RowKit

/-- The variable ErrRange holds an error. -/
def Er (w : World) : Prop := ∃ (te : TypeId) (pe : Value), w.cell? ⟨1, 0, none⟩ = some (.iface te pe)
theorem Er.on {w w' : World} (h : Er w) (e : Ext w w') : Er w' := by
  obtain ⟨te, pe, hc⟩ := h
  exact ⟨te, pe, e.cell hc⟩

theorem ext_parse {w w' : World} {e : TypeId} (h : w' = w ∨ ∃ t, w' = Lib.bytesWorld w e t) : Ext w w' := by
  rcases h with rfl | ⟨t, rfl⟩
  · exact Ext.refl _
  · exact Lib.bytesWorld_below _ _ _

/-- The number that stands at a place: how many digits, what they spell, whether an i stands behind them. -/
def nd (s : ByteArray) (o : Nat) : Nat := run dg ((L s).drop o)
def nv (s : ByteArray) (o : Nat) : Nat := dv 0 (((L s).drop o).take (nd s o))
def isI (s : ByteArray) (k : Nat) : Bool := (L s)[k]? == some 105
def nmAt (s : ByteArray) (k : Nat) : Bool := ((L s)[k]?.map nm).getD false
def numT (s : ByteArray) (o : Nat) : Option (Int × ByteArray × Int × Nat) :=
  if 9223372036854775807 < nv s o then none
  else if isI s (o + nd s o) then (if nmAt s (o + nd s o + 1) then none else some (4, ⟨#[]⟩, nv s o, o + nd s o + 1))
  else (if nmAt s (o + nd s o) then none else some (3, ⟨#[]⟩, nv s o, o + nd s o))

theorem isI_end (s : ByteArray) (k : Nat) (h : s.size ≤ k) : isI s k = false := by
  unfold isI; rw [List.getElem?_eq_none (by rw [L_len]; exact h)]; rfl
theorem nmAt_end (s : ByteArray) (k : Nat) (h : s.size ≤ k) : nmAt s k = false := by
  unfold nmAt; rw [List.getElem?_eq_none (by rw [L_len]; exact h)]; rfl
theorem nmAt_at (s : ByteArray) (k : Nat) (h : k < s.size) : nmAt s k = nm s[k] := by
  unfold nmAt; rw [L_get s k h]; rfl
theorem isI_at (s : ByteArray) (k : Nat) (h : k < s.size) : isI s k = ((s[k].toNat : Int) == 105) := by
  unfold isI
  rw [L_get s k h, Bool.eq_iff_iff]
  simp only [beq_iff_eq, Option.some.injEq]
  refine ⟨fun e => by rw [e]; rfl, fun e => ?_⟩
  apply UInt8.toNat.inj
  show _ = 105
  omega

theorem nd_le (s : ByteArray) (o : Nat) : nd s o ≤ s.size - o := by
  have := run_le dg ((L s).drop o)
  rw [List.length_drop, L_len] at this
  exact this

theorem num_digits (s : ByteArray) (o : Nat) (ho : o < s.size) (hd : dg s[o] = true) : 1 ≤ nd s o ∧
    Lib.parseIntB 64 (s.extract o (o + nd s o)).data.toList = if nv s o ≤ 9223372036854775807 then .ok (nv s o : Int) else .range := by
  have h1 : 1 ≤ nd s o := by unfold nd; rw [L_drop s o ho]; exact run_pos hd
  refine ⟨h1, ?_⟩
  show Lib.parseIntB 64 (L (s.extract o (o + nd s o))) = _
  rw [L_extract, Nat.add_sub_cancel_left]
  refine parse_digits _ ?_ (run_take _)
  intro h
  have hl := congrArg List.length h
  rw [List.length_take, List.length_drop, L_len] at hl
  simp at hl
  omega

set_option maxHeartbeats 1000000 in
theorem number_range (s : ByteArray) (o : Nat) (w : World) (ho : o < s.size) (hs : s.size ≤ 140737488355328) (hd : dg s[o] = true) (he : Er w) (hr : 9223372036854775807 < nv s o) : Tells 26 s o w none := by
  unfold Tells
  obtain ⟨h1, hp⟩ := num_digits s o ho hd
  rw [if_neg (by omega)] at hp
  obtain ⟨te, pe, hc⟩ := he
  have hle := nd_le s o
  have HP := hide (fun W => past_digit s o W (by omega) hs)
  have HE : Hd (∀ W, run dg ((L s).drop o) = nd s o ∧ (Ext w W → W.cell? ⟨1, 0, none⟩ = some (.iface te pe))) := fun W => ⟨rfl, fun e => e.cell hc⟩
  have HQ := hide (fun W e => Tryd.strconv_ParseInt_10_at64_range (s.extract o (o + nd s o)) (by rw [ByteArray.size_extract]; omega) hp (.iface te pe) W ((unhide HE W).2 e) (Or.inr ⟨te, pe, rfl⟩))
  have HP : Hd (∀ W, Calls Tryd.prog 23 #[.string s, .int .i64 o, fnV 25] W fun e w' => e = .returned (.int .i64 ((o + nd s o : Nat) : Int)) ∧ w' = W) := unhide HP
  clear HE hp hr hc hd
  generalize nd s o = j at h1 hle HP HQ
  go_enter Tryd.func26, Tryd.ntmps26
  go_wp2_with (first
    | (go_at_call 23; refine Calls.mono (unhide HP _) ?_; rintro e w1 ⟨rfl, rfl⟩)
    | (go_at_call 31; refine Calls.mono (unhide HQ _ (Ext.alloc _ _)) ?_; rintro e w1 ⟨N, rfl, -, -, hw⟩; have F1 := hide ((Four.new _ _ _ _ _ _).on hw); have H1 := hide ((Ext.alloc _ _).trans hw); clear hw)
    | (go_at_call 32; refine Calls.mono (none_any _) ?_; rintro e w2 ⟨rfl, hw⟩; have f4 := (unhide F1).on hw; have z0 := f4.c0; have z1 := f4.c1; have z2 := f4.c2; have z3 := f4.c3; have zf := f4.fz; have H := hide ((unhide H1).trans hw); clear hw f4))
  exact bodyPost_ret (v := .tuple #[tokV 0 ⟨#[]⟩ 0 0, .int .i64 0, .bool false]) (by simp [results, Tryd.results26, go_sem, z0, z1, z2, z3]) rfl ⟨rfl, set4_ext (unhide H) _ (Nat.le_refl _) _ _ _ _⟩

set_option maxHeartbeats 2000000 in
theorem number_end (s : ByteArray) (o j : Nat) (v : Int) (w : World) (hs : s.size ≤ 140737488355328) (hle : j ≤ s.size - o) (ho : o < s.size)
    (HP : Hd (∀ W, Calls Tryd.prog 23 #[.string s, .int .i64 o, fnV 25] W fun e w' => e = .returned (.int .i64 ((o + j : Nat) : Int)) ∧ w' = W))
    (HQ : Hd (∀ W, Calls Tryd.prog 31 #[.string (s.extract o (o + j)), .int .i64 10, .int .i64 64] W fun e w' => e = .returned (.tuple #[.int .i64 v, .nilIface]) ∧ (w' = W ∨ ∃ t, w' = Lib.bytesWorld W 5 t)))
    (hj : s.size ≤ o + j) : Tells 26 s o w (some (3, ⟨#[]⟩, v, o + j)) := by
  unfold Tells
  have e1 : decide ((o : Int) + j < s.size) = false := decide_eq_false (by omega)
  go_enter Tryd.func26, Tryd.ntmps26
  go_wp2_with (first
    | (go_at_call 23; refine Calls.mono (unhide HP _) ?_; rintro e w1 ⟨rfl, rfl⟩)
    | (go_at_call 31; refine Calls.mono (unhide HQ _) ?_; rintro e w1 ⟨rfl, hw1⟩; have hw := ext_parse hw1; have f4 := (Four.new _ _ _ _ _ _).on hw; have z0 := f4.c0; have z1 := f4.c1; have z2 := f4.c2; have z3 := f4.c3; have zf := f4.fz; have hz : w.heap.size < w1.heap.size := World.block_lt_of_cell? w1 ⟨w.heap.size, 0, none⟩ f4.c0; have F1 := hide f4; have H := hide ((Ext.alloc _ _).trans hw); clear hw hw1 f4))
  exact bodyPost_ret (v := .tuple #[tokV 3 ⟨#[]⟩ v o, .int .i64 (o + j), .bool true]) (by simp [results, Tryd.results26, go_sem, z0, z1, z2, z3, hz, Nat.ne_of_lt hz]) rfl ⟨rfl, (set4_ext (unhide H) _ (Nat.le_refl _) _ _ _ _).trans (Ext.alloc _ _)⟩

set_option maxHeartbeats 2000000 in
theorem number_plain_no (s : ByteArray) (o j : Nat) (v : Int) (w : World) (hs : s.size ≤ 140737488355328) (hle : j ≤ s.size - o) (ho : o < s.size)
    (HP : Hd (∀ W, Calls Tryd.prog 23 #[.string s, .int .i64 o, fnV 25] W fun e w' => e = .returned (.int .i64 ((o + j : Nat) : Int)) ∧ w' = W))
    (HQ : Hd (∀ W, Calls Tryd.prog 31 #[.string (s.extract o (o + j)), .int .i64 10, .int .i64 64] W fun e w' => e = .returned (.tuple #[.int .i64 v, .nilIface]) ∧ (w' = W ∨ ∃ t, w' = Lib.bytesWorld W 5 t)))
    (hj : o + j < s.size) (hi : ((s[o + j].toNat : Int) == 105) = false) (hn : nm s[o + j] = true) : Tells 26 s o w (none) := by
  unfold Tells
  go_enter Tryd.func26, Tryd.ntmps26
  go_wp2_with (first
    | (go_at_call 23; refine Calls.mono (unhide HP _) ?_; rintro e w1 ⟨rfl, rfl⟩)
    | (go_at_call 31; refine Calls.mono (unhide HQ _) ?_; rintro e w1 ⟨rfl, hw1⟩; have hw := ext_parse hw1; have f4 := (Four.new _ _ _ _ _ _).on hw; have z0 := f4.c0; have z1 := f4.c1; have z2 := f4.c2; have z3 := f4.c3; have zf := f4.fz; have hz : w.heap.size < w1.heap.size := World.block_lt_of_cell? w1 ⟨w.heap.size, 0, none⟩ f4.c0; have F1 := hide f4; have H := hide ((Ext.alloc _ _).trans hw); clear hw hw1 f4)
    | (go_at_call 27; refine Calls.mono (inName_any _ _) ?_; rintro e w2 ⟨rfl, rfl⟩)
    | (go_at_call 32; refine Calls.mono (none_any _) ?_; rintro e w2 ⟨rfl, hw⟩; have f4 := (unhide F1).on (((Ext.alloc _ _)).trans hw); clear z0 z1 z2 z3 zf; have z0 := f4.c0; have z1 := f4.c1; have z2 := f4.c2; have z3 := f4.c3; have zf := f4.fz; have H2 := hide ((unhide H).trans (((Ext.alloc _ _)).trans hw)); clear hw f4))
  exact bodyPost_ret (v := .tuple #[tokV 0 ⟨#[]⟩ 0 0, .int .i64 0, .bool false]) (by simp [results, Tryd.results26, go_sem, z0, z1, z2, z3]) rfl ⟨rfl, set4_ext (unhide H2) _ (Nat.le_refl _) _ _ _ _⟩

set_option maxHeartbeats 2000000 in
theorem number_plain_yes (s : ByteArray) (o j : Nat) (v : Int) (w : World) (hs : s.size ≤ 140737488355328) (hle : j ≤ s.size - o) (ho : o < s.size)
    (HP : Hd (∀ W, Calls Tryd.prog 23 #[.string s, .int .i64 o, fnV 25] W fun e w' => e = .returned (.int .i64 ((o + j : Nat) : Int)) ∧ w' = W))
    (HQ : Hd (∀ W, Calls Tryd.prog 31 #[.string (s.extract o (o + j)), .int .i64 10, .int .i64 64] W fun e w' => e = .returned (.tuple #[.int .i64 v, .nilIface]) ∧ (w' = W ∨ ∃ t, w' = Lib.bytesWorld W 5 t)))
    (hj : o + j < s.size) (hi : ((s[o + j].toNat : Int) == 105) = false) (hn : nm s[o + j] = false) : Tells 26 s o w (some (3, ⟨#[]⟩, v, o + j)) := by
  unfold Tells
  go_enter Tryd.func26, Tryd.ntmps26
  go_wp2_with (first
    | (go_at_call 23; refine Calls.mono (unhide HP _) ?_; rintro e w1 ⟨rfl, rfl⟩)
    | (go_at_call 31; refine Calls.mono (unhide HQ _) ?_; rintro e w1 ⟨rfl, hw1⟩; have hw := ext_parse hw1; have f4 := (Four.new _ _ _ _ _ _).on hw; have z0 := f4.c0; have z1 := f4.c1; have z2 := f4.c2; have z3 := f4.c3; have zf := f4.fz; have hz : w.heap.size < w1.heap.size := World.block_lt_of_cell? w1 ⟨w.heap.size, 0, none⟩ f4.c0; have F1 := hide f4; have H := hide ((Ext.alloc _ _).trans hw); clear hw hw1 f4)
    | (go_at_call 27; refine Calls.mono (inName_any _ _) ?_; rintro e w2 ⟨rfl, rfl⟩))
  exact bodyPost_ret (v := .tuple #[tokV 3 ⟨#[]⟩ v o, .int .i64 (o + j), .bool true]) (by simp [results, Tryd.results26, go_sem, z0, z1, z2, z3, hz, Nat.ne_of_lt hz]) rfl ⟨rfl, (set4_ext (unhide H) _ (Nat.le_refl _) _ _ _ _).trans (Ext.alloc _ _)⟩

set_option maxHeartbeats 2000000 in
theorem number_imag_end (s : ByteArray) (o j : Nat) (v : Int) (w : World) (hs : s.size ≤ 140737488355328) (hle : j ≤ s.size - o) (ho : o < s.size)
    (HP : Hd (∀ W, Calls Tryd.prog 23 #[.string s, .int .i64 o, fnV 25] W fun e w' => e = .returned (.int .i64 ((o + j : Nat) : Int)) ∧ w' = W))
    (HQ : Hd (∀ W, Calls Tryd.prog 31 #[.string (s.extract o (o + j)), .int .i64 10, .int .i64 64] W fun e w' => e = .returned (.tuple #[.int .i64 v, .nilIface]) ∧ (w' = W ∨ ∃ t, w' = Lib.bytesWorld W 5 t)))
    (hj : o + j < s.size) (hi : ((s[o + j].toNat : Int) == 105) = true) (hk : s.size ≤ o + j + 1) : Tells 26 s o w (some (4, ⟨#[]⟩, v, o + j + 1)) := by
  unfold Tells
  have e1 : decide ((o : Int) + j + 1 < s.size) = false := decide_eq_false (by omega)
  go_enter Tryd.func26, Tryd.ntmps26
  go_wp2_with (first
    | (go_at_call 23; refine Calls.mono (unhide HP _) ?_; rintro e w1 ⟨rfl, rfl⟩)
    | (go_at_call 31; refine Calls.mono (unhide HQ _) ?_; rintro e w1 ⟨rfl, hw1⟩; have hw := ext_parse hw1; have f4 := (Four.new _ _ _ _ _ _).on hw; have z0 := f4.c0; have z1 := f4.c1; have z2 := f4.c2; have z3 := f4.c3; have zf := f4.fz; have hz : w.heap.size < w1.heap.size := World.block_lt_of_cell? w1 ⟨w.heap.size, 0, none⟩ f4.c0; have F1 := hide f4; have H := hide ((Ext.alloc _ _).trans hw); clear hw hw1 f4))
  exact bodyPost_ret (v := .tuple #[tokV 4 ⟨#[]⟩ v o, .int .i64 (o + j + 1), .bool true]) (by simp [results, Tryd.results26, go_sem, z0, z1, z2, z3, hz, Nat.ne_of_lt hz]) rfl ⟨rfl, (set4_ext (unhide H) _ (Nat.le_refl _) _ _ _ _).trans (Ext.alloc _ _)⟩

set_option maxHeartbeats 2000000 in
theorem number_imag_no (s : ByteArray) (o j : Nat) (v : Int) (w : World) (hs : s.size ≤ 140737488355328) (hle : j ≤ s.size - o) (ho : o < s.size)
    (HP : Hd (∀ W, Calls Tryd.prog 23 #[.string s, .int .i64 o, fnV 25] W fun e w' => e = .returned (.int .i64 ((o + j : Nat) : Int)) ∧ w' = W))
    (HQ : Hd (∀ W, Calls Tryd.prog 31 #[.string (s.extract o (o + j)), .int .i64 10, .int .i64 64] W fun e w' => e = .returned (.tuple #[.int .i64 v, .nilIface]) ∧ (w' = W ∨ ∃ t, w' = Lib.bytesWorld W 5 t)))
    (hj : o + j < s.size) (hi : ((s[o + j].toNat : Int) == 105) = true) (hk : o + j + 1 < s.size) (hn : nm s[o + j + 1] = true) : Tells 26 s o w (none) := by
  unfold Tells
  go_enter Tryd.func26, Tryd.ntmps26
  go_wp2_with (first
    | (go_at_call 23; refine Calls.mono (unhide HP _) ?_; rintro e w1 ⟨rfl, rfl⟩)
    | (go_at_call 31; refine Calls.mono (unhide HQ _) ?_; rintro e w1 ⟨rfl, hw1⟩; have hw := ext_parse hw1; have f4 := (Four.new _ _ _ _ _ _).on hw; have z0 := f4.c0; have z1 := f4.c1; have z2 := f4.c2; have z3 := f4.c3; have zf := f4.fz; have hz : w.heap.size < w1.heap.size := World.block_lt_of_cell? w1 ⟨w.heap.size, 0, none⟩ f4.c0; have F1 := hide f4; have H := hide ((Ext.alloc _ _).trans hw); clear hw hw1 f4)
    | (go_at_call 27; refine Calls.mono (inName_any _ _) ?_; rintro e w2 ⟨rfl, rfl⟩)
    | (go_at_call 32; refine Calls.mono (none_any _) ?_; rintro e w2 ⟨rfl, hw⟩; have f4 := (unhide F1).on (((Ext.alloc _ _)).trans hw); clear z0 z1 z2 z3 zf; have z0 := f4.c0; have z1 := f4.c1; have z2 := f4.c2; have z3 := f4.c3; have zf := f4.fz; have H2 := hide ((unhide H).trans (((Ext.alloc _ _)).trans hw)); clear hw f4))
  exact bodyPost_ret (v := .tuple #[tokV 0 ⟨#[]⟩ 0 0, .int .i64 0, .bool false]) (by simp [results, Tryd.results26, go_sem, z0, z1, z2, z3]) rfl ⟨rfl, set4_ext (unhide H2) _ (Nat.le_refl _) _ _ _ _⟩

set_option maxHeartbeats 2000000 in
theorem number_imag_yes (s : ByteArray) (o j : Nat) (v : Int) (w : World) (hs : s.size ≤ 140737488355328) (hle : j ≤ s.size - o) (ho : o < s.size)
    (HP : Hd (∀ W, Calls Tryd.prog 23 #[.string s, .int .i64 o, fnV 25] W fun e w' => e = .returned (.int .i64 ((o + j : Nat) : Int)) ∧ w' = W))
    (HQ : Hd (∀ W, Calls Tryd.prog 31 #[.string (s.extract o (o + j)), .int .i64 10, .int .i64 64] W fun e w' => e = .returned (.tuple #[.int .i64 v, .nilIface]) ∧ (w' = W ∨ ∃ t, w' = Lib.bytesWorld W 5 t)))
    (hj : o + j < s.size) (hi : ((s[o + j].toNat : Int) == 105) = true) (hk : o + j + 1 < s.size) (hn : nm s[o + j + 1] = false) : Tells 26 s o w (some (4, ⟨#[]⟩, v, o + j + 1)) := by
  unfold Tells
  go_enter Tryd.func26, Tryd.ntmps26
  go_wp2_with (first
    | (go_at_call 23; refine Calls.mono (unhide HP _) ?_; rintro e w1 ⟨rfl, rfl⟩)
    | (go_at_call 31; refine Calls.mono (unhide HQ _) ?_; rintro e w1 ⟨rfl, hw1⟩; have hw := ext_parse hw1; have f4 := (Four.new _ _ _ _ _ _).on hw; have z0 := f4.c0; have z1 := f4.c1; have z2 := f4.c2; have z3 := f4.c3; have zf := f4.fz; have hz : w.heap.size < w1.heap.size := World.block_lt_of_cell? w1 ⟨w.heap.size, 0, none⟩ f4.c0; have F1 := hide f4; have H := hide ((Ext.alloc _ _).trans hw); clear hw hw1 f4)
    | (go_at_call 27; refine Calls.mono (inName_any _ _) ?_; rintro e w2 ⟨rfl, rfl⟩))
  exact bodyPost_ret (v := .tuple #[tokV 4 ⟨#[]⟩ v o, .int .i64 (o + j + 1), .bool true]) (by simp [results, Tryd.results26, go_sem, z0, z1, z2, z3, hz, Nat.ne_of_lt hz]) rfl ⟨rfl, (set4_ext (unhide H) _ (Nat.le_refl _) _ _ _ _).trans (Ext.alloc _ _)⟩

theorem number_any (s : ByteArray) (o : Nat) (w : World) (ho : o < s.size) (hs : s.size ≤ 140737488355328) (hd : dg s[o] = true) (he : Er w) : Tells 26 s o w (numT s o) := by
  by_cases hr : 9223372036854775807 < nv s o
  · unfold numT
    rw [if_pos hr]
    exact number_range s o w ho hs hd he hr
  · obtain ⟨h1, hp⟩ := num_digits s o ho hd
    rw [if_pos (by omega)] at hp
    have hle := nd_le s o
    have HP : Hd (∀ W, Calls Tryd.prog 23 #[.string s, .int .i64 o, fnV 25] W fun e w' => e = .returned (.int .i64 ((o + nd s o : Nat) : Int)) ∧ w' = W) := fun W => past_digit s o W (by omega) hs
    have HQ := hide (fun W => Tryd.strconv_ParseInt_10_at64_ok (s.extract o (o + nd s o)) (by rw [ByteArray.size_extract]; omega) _ hp W)
    unfold numT
    rw [if_neg hr]
    by_cases hj : s.size ≤ o + nd s o
    · rw [isI_end s _ hj, if_neg (by decide), nmAt_end s _ hj, if_neg (by decide)]
      exact number_end s o _ _ w hs hle ho HP HQ hj
    · have hj : o + nd s o < s.size := by omega
      rw [isI_at s _ hj, nmAt_at s _ hj]
      cases hi : ((s[o + nd s o].toNat : Int) == 105) with
      | false =>
        rw [if_neg (by decide)]
        cases hn : nm s[o + nd s o] with
        | false => rw [if_neg (by decide)]; exact number_plain_yes s o _ _ w hs hle ho HP HQ hj hi hn
        | true => rw [if_pos rfl]; exact number_plain_no s o _ _ w hs hle ho HP HQ hj hi hn
      | true =>
        rw [if_pos rfl]
        by_cases hk : s.size ≤ o + nd s o + 1
        · rw [nmAt_end s _ hk, if_neg (by decide)]
          exact number_imag_end s o _ _ w hs hle ho HP HQ hj hi hk
        · have hk : o + nd s o + 1 < s.size := by omega
          rw [nmAt_at s _ hk]
          cases hn : nm s[o + nd s o + 1] with
          | false => rw [if_neg (by decide)]; exact number_imag_yes s o _ _ w hs hle ho HP HQ hj hi hk hn
          | true => rw [if_pos rfl]; exact number_imag_no s o _ _ w hs hle ho HP HQ hj hi hk hn

end Go.Proofs.YtbncceknldjbjaaDoor
