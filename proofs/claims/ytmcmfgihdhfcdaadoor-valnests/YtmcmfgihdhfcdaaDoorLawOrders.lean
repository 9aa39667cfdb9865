/- The walk of the law ValOrders: a text's value is as great as it has bytes and one, a list's as what is in it and one; what is one too great is none. -/
import Derived.Test.YtmcmfgihdhfcdaaDoorValAwake
set_option linter.unusedSimpArgs false
set_option maxRecDepth 10000
namespace Go.Proofs.YtmcmfgihdhfcdaaDoor
open Go.RowKit

theorem mask16 (a : Int) (k : Nat) (hk : 0 < k) : ∃ n : Nat, (bits .and .i64 a 65535).tmod (k : Int) = n ∧ n < k := by
  have h : ∃ n : Nat, bits .and .i64 a 65535 = n ∧ n ≤ 65535 := by
    refine ⟨(BitVec.ofInt 64 a &&& BitVec.ofInt 64 65535).toNat, ?_, ?_⟩
    · have hl : (BitVec.ofInt 64 a &&& BitVec.ofInt 64 65535).toNat ≤ 65535 := by
        rw [BitVec.toNat_and]; exact Nat.and_le_right
      show IntKind.wrap .i64 ((BitVec.ofInt 64 a &&& BitVec.ofInt 64 65535).toNat : Int) = _
      generalize (BitVec.ofInt 64 a &&& BitVec.ofInt 64 65535).toNat = n at hl
      have e : IntKind.wrap .i64 (n : Int) = if (true && decide ((n : Int) % (18446744073709551616 : Int) ≥ (9223372036854775808 : Int))) = true then (n : Int) % 18446744073709551616 - 18446744073709551616 else (n : Int) % 18446744073709551616 := rfl
      rw [e]
      have : decide ((n : Int) % (18446744073709551616 : Int) ≥ (9223372036854775808 : Int)) = false := by
        rw [decide_eq_false_iff_not]; omega
      rw [this]
      simp only [Bool.and_false, Bool.false_eq_true, if_false]
      omega
    · rw [BitVec.toNat_and]; exact Nat.and_le_right
  obtain ⟨n, hn, _⟩ := h
  refine ⟨n % k, ?_, Nat.mod_lt _ hk⟩
  rw [hn]
  exact (Int.ofNat_tmod n k).symm

/-- A row of noughts, made and read as a text: so many bytes. -/
theorem zeros (n : Nat) (hn : n < 1100) : ∃ (Z : Array Value) (s : ByteArray), s.size = n ∧ (∀ W : World, (Instr.makeSlice 27 (.int .i64 (n : Int)) (.int .i64 (n : Int))).run Tryd.prog W = .ok (.slice (some ⟨W.heap.size, 0, none⟩) n n) (W.alloc (.cells Z 5))) ∧
    (∀ W : World, (convert 27 9 (.slice (some ⟨W.heap.size, 0, none⟩) n n)).run Tryd.prog (W.alloc (.cells Z 5)) = .ok (.string s) (W.alloc (.cells Z 5))) := by
  obtain ⟨i0, hi, hz0, hz1, hz2⟩ := info_parts info5
  refine ⟨madeCells (Value.int .u8 0).cells (n * 1), ⟨(List.replicate n 0).toArray⟩, by simp [ByteArray.size], ?_, ?_⟩
  · intro W
    have h := run_make (P := Tryd.prog) W 27 5 i0 (.int .u8 0) Tryd.underlying27 hi hz0 .i64 .i64 (n : Int) (n : Int) (by omega) (by omega) (by rw [hz2]; omega) (by omega)
    rw [hz1] at h
    simpa using h
  · intro W
    rw [run_convert_bytes_string _ 27 9 5 _ _ _ Tryd.underlying27 Tryd.underlying5 Tryd.underlying9]
    rw [run_bytesToString _ ⟨W.heap.size, 0, none⟩ n n ((List.replicate n (0 : UInt8)).map fun c => (c.toNat : Int)) ?_]
    · rw [fold_push]; simp
    · have hl : (((List.replicate n (0 : UInt8)).map fun c => (c.toNat : Int)).map (Value.int .u8)).length = n := by simp
      have := run_loadCells_list (P := Tryd.prog) (w := W.alloc (.cells (madeCells (Value.int .u8 0).cells (n * 1)) 5)) ⟨W.heap.size, 0, none⟩ (((List.replicate n (0 : UInt8)).map fun c => (c.toNat : Int)).map (Value.int .u8)) (fun j u hj => by
        rw [add0]
        refine cell_box W _ _ j ?_
        have hlt : j < n := by
          rcases Nat.lt_or_ge j n with q | q
          · exact q
          · rw [List.getElem?_eq_none (by rw [hl]; exact q)] at hj; cases hj
        have e := toList_madeCells_one (.int .u8 0) (n * 1)
        rw [← Array.getElem?_toList]
        show (madeCells #[.int .u8 0] (n * 1)).toList[j]? = _
        rw [e, ← hj]
        simp [List.getElem?_replicate])
      rw [hl] at this
      exact this

theorem rep_tx (w : World) (F : Nat → Prop) {s : ByteArray} {a : Option Addr} {c : Nat} (hs : s.size ≤ 140737488355328) : Rep w F (tx s) (.agg #[.int .i64 3, .int .i64 0, .complex .f64 0 0, .string s, .slice a 0 c]) := by
  rw [tx, Rep]
  exact ⟨a, c, rfl, ⟨by decide, by decide, by decide, by decide, by decide, by decide, hs, by decide, Nat.zero_le _⟩, by simp [RepL]⟩

theorem text_good (s : ByteArray) (w : World) (hs : s.size ≤ 999) :
    Calls Tryd.prog 5 #[.string s] w fun e w' => ∃ a c, e = .returned (.agg #[.int .i64 3, .int .i64 0, .complex .f64 0 0, .string s, .slice a 0 c]) ∧ Ext w w' := by
  refine (valtext_any s w (by omega)).mono ?_
  rintro e w' ⟨v, rfl, hr, hw⟩
  rw [textP_eq, if_pos hs, tx, Rep] at hr
  obtain ⟨a, c, rfl, -, -⟩ := hr
  exact ⟨a, c, rfl, hw⟩

theorem text_great (s : ByteArray) (w : World) (hs : ¬ s.size ≤ 999) (hl : s.size ≤ 140737488355328) :
    Calls Tryd.prog 5 #[.string s] w fun e w' => ∃ a c, e = .returned (.agg #[.int .i64 0, .int .i64 0, .complex .f64 0 0, .string ⟨#[]⟩, .slice a 0 c]) ∧ Ext w w' := by
  refine (valtext_any s w hl).mono ?_
  rintro e w' ⟨v, rfl, hr, hw⟩
  rw [textP_eq, if_neg hs, nilP, Rep] at hr
  obtain ⟨a, c, rfl, -, -⟩ := hr
  exact ⟨a, c, rfl, hw⟩

theorem rep_nil2 (w : World) (F : Nat → Prop) (a : Option Addr) (c : Nat) : Rep w F nilP (.agg #[.int .i64 0, .int .i64 0, .complex .f64 0 0, .string ⟨#[]⟩, .slice a 0 c]) := by
  rw [nilP, Rep]
  exact ⟨a, c, rfl, ⟨by decide, by decide, by decide, by decide, by decide, by decide, by decide, by decide, Nat.zero_le _⟩, by simp [RepL]⟩

theorem size_nilv (a : Option Addr) (c : Nat) (w : World) : Calls Tryd.prog 6 #[.agg #[.int .i64 0, .int .i64 0, .complex .f64 0 0, .string ⟨#[]⟩, .slice a 0 c]] w fun e w' => e = .returned (.int .i64 1) ∧ Ext w w' := by
  have h := top_any nilP _ w (rep_nil2 w _ a c)
  rw [sz_nil] at h
  exact h

theorem size_txv (s : ByteArray) (n : Nat) (hn : s.size = n) (hs : n ≤ 999) (a : Option Addr) (c : Nat) (w : World) : Calls Tryd.prog 6 #[.agg #[.int .i64 3, .int .i64 0, .complex .f64 0 0, .string s, .slice a 0 c]] w fun e w' => e = .returned (.int .i64 ((n : Int) + 1)) ∧ Ext w w' := by
  refine (top_any (tx s) _ w (rep_tx w _ (by omega))).mono ?_
  rintro e w' ⟨rfl, hw⟩
  refine ⟨ret_i64 ?_, hw⟩
  rw [sz_tx, hn]
  omega

theorem ok_txv (s : ByteArray) (hs : s.size ≤ 999) (a : Option Addr) (c : Nat) (w : World) : Calls Tryd.prog 8 #[.agg #[.int .i64 3, .int .i64 0, .complex .f64 0 0, .string s, .slice a 0 c]] w fun e w' => e = .returned (.bool true) ∧ Ext w w' := by
  refine (okv_any (tx s) _ w (rep_tx w _ (by omega))).mono ?_
  rintro e w' ⟨rfl, hw⟩
  exact ⟨ret_bool (by rw [okv_tx]; simpa using hs), hw⟩

theorem truth_txv (s : ByteArray) (n : Nat) (hn : s.size = n) (hs : n ≤ 999) (a : Option Addr) (c : Nat) (w : World) : Calls Tryd.prog 9 #[.agg #[.int .i64 3, .int .i64 0, .complex .f64 0 0, .string s, .slice a 0 c]] w fun e w' => e = .returned (.bool (decide ((0 : Int) < (n : Int)))) ∧ Ext w w' := by
  refine (truth_any (tx s) _ w (rep_tx w _ (by omega))).mono ?_
  rintro e w' ⟨rfl, hw⟩
  refine ⟨ret_bool ?_, hw⟩
  rw [tk_tx, if_pos (by omega)]
  have he : s.toList = [] ↔ n = 0 := by
    rw [ByteArray.toList_eq, ← hn]
    show s.data.toList = [] ↔ s.data.size = 0
    rw [← Array.length_toList, List.length_eq_zero_iff]
  simp only [truev, tx, PV.n, PV.re, PV.im, PV.s, PV.l, ord00, he, decide_eq_decide]
  simp
  omega

theorem rtext_any (s : ByteArray) (w : World) : Calls Tryd.prog 10 #[.string s] w fun e w' => e = .returned (.agg #[.int .i64 3, .int .i64 0, .complex .f64 0 0, .string s, .slice none 0 0]) ∧ Ext w w' := by
  go_enter Tryd.func10, Tryd.ntmps10
  go_wp2_with fail
  go_returns
  exact ⟨rfl, Ext.alloc _ _⟩

theorem tab_of {w w1 : World} (h : Hd (Tab w.heap.size w)) (e : Ext w w1) : Tab w1.heap.size w1 := tab_up (unhide h) e

theorem orders_great (a0 a1 : Int) (w : World) (ht : Tab w.heap.size w) (n m : Nat) (hn : (bits .and .i64 a0 65535).tmod 1100 = n) (hn1 : n < 1100) (hm : (bits .and .i64 a1 65535).tmod 1100 = m) (hg : 999 < n) :
    Calls Tryd.prog 3 #[.int .i64 a0, .int .i64 a1] w fun e w' => e = .returned (.bool true) ∧ Ext w w' := by
  obtain ⟨Z, s, hs, hmk, hcv⟩ := zeros n hn1
  have hs1 : Hd (¬ s.size ≤ 999 ∧ s.size ≤ 140737488355328) := by constructor <;> omega
  have T := hide ht
  clear ht hs
  go_enter Tryd.func3, Tryd.ntmps3
  go_wp2_with (first
    | (go_at_call 5; refine Calls.mono (text_great _ _ (unhide hs1).1 (unhide hs1).2) ?_; rintro e w2 ⟨a2, c2, rfl, hw2⟩; have W2 := hide ((Ext.alloc _ _).trans hw2); clear hw2)
    | (go_at_call 6; refine Calls.mono (size_nilv _ _ _) ?_; rintro e w3 ⟨rfl, hw3⟩; have W3 := hide (((unhide W2).trans (Ext.alloc _ _)).trans hw3); clear hw3)
    | (go_at_call 7; refine Calls.mono (vawake_any _ (tab_of T (unhide W3))) ?_; rintro e w4 ⟨rfl, hw4⟩; have W4 := hide ((unhide W3).trans hw4); clear hw4))
  go_ret
  exact ⟨rfl, unhide W4⟩

/-- The list of two texts, by what it is. -/
theorem list_two (s s' : ByteArray) (n m : Nat) (hn : s.size = n) (hm : s'.size = m) (h1 : n ≤ 999) (h2 : m < 1100) : listP [tx s, tx s'] =
    if 999 < m then (if 1000 < n + 3 then nilP else ls [tx s, nilP]) else (if 1000 < n + m + 3 then nilP else ls [tx s, tx s']) := by
  have ha : tk (tx s) = tx s := by rw [tk_tx, if_pos (by omega)]
  by_cases hg : 999 < m
  · have hb : tk (tx s') = nilP := by rw [tk_tx, if_neg (by omega)]
    rw [listP_two _ _ (by rw [ha, norm_tx]) (by rw [hb, norm_nil]) (by rw [ha, wfv_tx]) (by rw [hb, wfv_nil]), ha, hb, sz_tx, sz_nil, hn, if_pos hg]
    by_cases h3 : 1000 < n + 3
    · rw [if_neg (by omega), if_pos h3]
    · rw [if_pos (by omega), if_neg h3]
  · have hb : tk (tx s') = tx s' := by rw [tk_tx, if_pos (by omega)]
    rw [listP_two _ _ (by rw [ha, norm_tx]) (by rw [hb, norm_tx]) (by rw [ha, wfv_tx]) (by rw [hb, wfv_tx]), ha, hb, sz_tx, sz_tx, hn, hm, if_neg hg]
    by_cases h3 : 1000 < n + m + 3
    · rw [if_neg (by omega), if_pos h3]
    · rw [if_pos (by omega), if_neg h3]

theorem bd_tx (s : ByteArray) (c : Nat) (hs : s.size ≤ 140737488355328) : Bd (tx s).k (tx s).n (tx s).re (tx s).im (tx s).s (tx s).l.length c :=
  (show Bd 3 0 0 0 s 0 c from ⟨by decide, by decide, by decide, by decide, by decide, by decide, hs, by decide, Nat.zero_le _⟩)

theorem list_c (s s' : ByteArray) (a2 : Option Addr) (c2 : Nat) (w : World) (T : TypeId) (hs : s.size ≤ 1100) (hs' : s'.size ≤ 1100) (q : PV) (hq : listP [tx s, tx s'] = q) (g : Nat) (hg : g = w.heap.size) :
    Calls Tryd.prog 11 #[.slice (some ⟨g, 0, none⟩) 2 2] (w.alloc (.cells #[.int .i64 3, .int .i64 0, .complex .f64 0 0, .string s, .slice a2 0 c2, .int .i64 3, .int .i64 0, .complex .f64 0 0, .string s', .slice none 0 0] T)) fun e w' => ∃ v', e = .returned v' ∧ Rep w' (In w') q v' ∧ Ext w w' := by
  subst hg
  refine (list_any [tx s, tx s'] (some ⟨w.heap.size, 0, none⟩) 2 _ (repL_two (p := tx s) (q := tx s') (ap := a2) (c1 := c2) (aq := none) (c2 := 0) (bd_tx s c2 (by omega)) (by simp [tx, PV.l, RepL]) (bd_tx s' 0 (by omega)) (by simp [tx, PV.l, RepL])) (by simp)).mono ?_
  rintro e w' ⟨v', rfl, hr, hw⟩
  rw [hq] at hr
  exact ⟨v', rfl, Fresh.in hr, (Ext.alloc _ _).trans hw⟩

set_option maxHeartbeats 4000000 in
theorem orders_nil (a0 a1 : Int) (w : World) (ht : Tab w.heap.size w) (n m : Nat) (hn : (bits .and .i64 a0 65535).tmod 1100 = n) (hn1 : n ≤ 999) (hm : (bits .and .i64 a1 65535).tmod 1100 = m) (hm1 : m < 1100)
    (hg : (999 < m ∧ 1000 < n + 3) ∨ (¬ 999 < m ∧ 1000 < n + m + 3)) :
    Calls Tryd.prog 3 #[.int .i64 a0, .int .i64 a1] w fun e w' => e = .returned (.bool true) ∧ Ext w w' := by
  obtain ⟨Z, s, hs, hmk, hcv⟩ := zeros n (by omega)
  obtain ⟨Z', s', hs', hmk', hcv'⟩ := zeros m hm1
  have hq : listP [tx s, tx s'] = nilP := by
    rw [list_two s s' n m hs hs' hn1 hm1]
    rcases hg with ⟨h1, h2⟩ | ⟨h1, h2⟩
    · rw [if_pos h1, if_pos h2]
    · rw [if_neg h1, if_pos h2]
  have LC := hide (fun a2 c2 w T g hg => list_c s s' a2 c2 w T (by omega) (by omega) nilP hq g hg)
  have S := hide hs
  have S1 : Hd (s.size ≤ 999) := by show s.size ≤ 999; omega
  have T := hide ht
  have hn0 : (n : Int) ≤ 999 := by omega
  clear ht hs hs' hq
  have hg2 : ((999 : Int) < (m : Int) ∧ (1000 : Int) < (n : Int) + 3) ∨ (¬ (999 : Int) < (m : Int) ∧ (1000 : Int) < (n : Int) + (m : Int) + 3) := by omega
  clear hg
  rcases hg2 with ⟨hg1, hg3⟩ | ⟨hg1, hg3⟩
  all_goals
    go_enter Tryd.func3, Tryd.ntmps3
    go_wp2_with (first
      | (go_at_call 5; refine Calls.mono (text_good _ _ (unhide S1)) ?_; rintro e w2 ⟨a2, c2, rfl, hw2⟩; have W2 := hide ((Ext.alloc _ _).trans hw2); clear hw2)
      | (go_at_call 6; refine Calls.mono (size_txv s n (unhide S) hn1 _ _ _) ?_; rintro e w3 ⟨rfl, hw3⟩; have p0 := hw3.box 0 rfl; have p1 := hw3.box 1 rfl; have p2 := hw3.box 2 rfl; have p3 := hw3.box 3 rfl; have p4 := hw3.box 4 rfl; have X3 := hide hw3; have W3 := hide (((unhide W2).trans (Ext.alloc _ _)).trans hw3); clear hw3)
      | (go_at_call 8; refine Calls.mono (ok_txv s (unhide S1) _ _ _) ?_; rintro e w4 ⟨rfl, hw4⟩; clear p0 p1 p2 p3 p4; have x4 := (unhide X3).trans hw4; have p0 := x4.box 0 rfl; have p1 := x4.box 1 rfl; have p2 := x4.box 2 rfl; have p3 := x4.box 3 rfl; have p4 := x4.box 4 rfl; have X4 := hide x4; have W4 := hide ((unhide W3).trans hw4); clear hw4 x4)
      | (go_at_call 9; refine Calls.mono (truth_txv s n (unhide S) hn1 _ _ _) ?_; rintro e w5 ⟨rfl, hw5⟩; clear p0 p1 p2 p3 p4; have x5 := (unhide X4).trans hw5; have p0 := x5.box 0 rfl; have p1 := x5.box 1 rfl; have p2 := x5.box 2 rfl; have p3 := x5.box 3 rfl; have p4 := x5.box 4 rfl; have X5 := hide x5; have W5 := hide ((unhide W4).trans hw5); clear hw5 x5)
      | (go_at_call 10; refine Calls.mono (rtext_any _ _) ?_; rintro e w6 ⟨rfl, hw6⟩; clear p0 p1 p2 p3 p4; have x6 := ((unhide X5).trans (Ext.alloc _ _)).trans hw6; have p0 := x6.box 0 rfl; have p1 := x6.box 1 rfl; have p2 := x6.box 2 rfl; have p3 := x6.box 3 rfl; have p4 := x6.box 4 rfl; have hlt : w2.heap.size < w6.heap.size := by have := x6.le; simp at this; omega
         have X6 := hide x6; have W6 := hide (((unhide W5).trans (Ext.alloc _ _)).trans hw6); clear hw6 x6)
      | (go_at_call 11; refine Calls.mono (unhide LC _ _ _ _ _ (by simp)) ?_; rintro e w7 ⟨v7, rfl, hr7, hw7⟩; rw [nilP, Rep] at hr7; obtain ⟨a7, c7, rfl, -, -⟩ := hr7; have W7 := hide (((unhide W6).trans (Ext.alloc _ _)).trans hw7); clear hw7)
      | (go_at_call 7; refine Calls.mono (vawake_any _ (tab_of T ((unhide W7).trans (Ext.alloc _ _)))) ?_; rintro e w8 ⟨rfl, hw8⟩; have W8 := hide (((unhide W7).trans (Ext.alloc _ _)).trans hw8); clear hw8))
    go_ret
    exact ⟨rfl, unhide W8⟩

set_option maxHeartbeats 4000000 in
theorem orders_both (a0 a1 : Int) (w : World) (ht : Tab w.heap.size w) (n m : Nat) (hn : (bits .and .i64 a0 65535).tmod 1100 = n) (hn1 : n ≤ 999) (hm : (bits .and .i64 a1 65535).tmod 1100 = m) (hm1 : m < 1100)
    (hg : ¬ 999 < m) (hg0 : ¬ 1000 < n + m + 3) :
    Calls Tryd.prog 3 #[.int .i64 a0, .int .i64 a1] w fun e w' => e = .returned (.bool true) ∧ Ext w w' := by
  obtain ⟨Z, s, hs, hmk, hcv⟩ := zeros n (by omega)
  obtain ⟨Z', s', hs', hmk', hcv'⟩ := zeros m hm1
  have hq : listP [tx s, tx s'] = ls [tx s, tx s'] := by
    rw [list_two s s' n m hs hs' hn1 hm1, if_neg hg, if_neg hg0]
  have hsz : sz (ls [tx s, tx s']) 0 = n + m + 3 := by
    rw [sz_two _ _ (by rw [sz_tx, sz_tx]; omega), sz_tx, sz_tx]
    omega
  have SZ := hide (fun v w (hr : Rep w (In w) (ls [tx s, tx s']) v) => top_any (ls [tx s, tx s']) v w hr)
  have HSZ := hide hsz
  have LC := hide (fun a2 c2 w T g hg => list_c s s' a2 c2 w T (by omega) (by omega) (ls [tx s, tx s']) hq g hg)
  clear hsz
  have S := hide hs
  have S1 : Hd (s.size ≤ 999) := by show s.size ≤ 999; omega
  have T := hide ht
  have hn0 : (n : Int) ≤ 999 := by omega
  clear ht hs hs' hq
  have hg1 : ¬ (999 : Int) < (m : Int) := by omega
  have hg3 : ¬ (1000 : Int) < (n : Int) + (m : Int) + 3 := by omega
  clear hg hg0
  · skip
    go_enter Tryd.func3, Tryd.ntmps3
    go_wp2_with (first
      | (go_at_call 5; refine Calls.mono (text_good _ _ (unhide S1)) ?_; rintro e w2 ⟨a2, c2, rfl, hw2⟩; have W2 := hide ((Ext.alloc _ _).trans hw2); clear hw2)
      | (go_at_call 6; refine Calls.mono (unhide SZ _ _ ((unhide R7).ext (Ext.alloc _ _))) ?_; rintro e w9 ⟨rfl, hw9⟩; rw [unhide HSZ]; have W9 := hide (((unhide W7).trans (Ext.alloc _ _)).trans hw9); clear hw9)
      | (go_at_call 6; refine Calls.mono (size_txv s n (unhide S) hn1 _ _ _) ?_; rintro e w3 ⟨rfl, hw3⟩; have p0 := hw3.box 0 rfl; have p1 := hw3.box 1 rfl; have p2 := hw3.box 2 rfl; have p3 := hw3.box 3 rfl; have p4 := hw3.box 4 rfl; have X3 := hide hw3; have W3 := hide (((unhide W2).trans (Ext.alloc _ _)).trans hw3); clear hw3)
      | (go_at_call 8; refine Calls.mono (ok_txv s (unhide S1) _ _ _) ?_; rintro e w4 ⟨rfl, hw4⟩; clear p0 p1 p2 p3 p4; have x4 := (unhide X3).trans hw4; have p0 := x4.box 0 rfl; have p1 := x4.box 1 rfl; have p2 := x4.box 2 rfl; have p3 := x4.box 3 rfl; have p4 := x4.box 4 rfl; have X4 := hide x4; have W4 := hide ((unhide W3).trans hw4); clear hw4 x4)
      | (go_at_call 9; refine Calls.mono (truth_txv s n (unhide S) hn1 _ _ _) ?_; rintro e w5 ⟨rfl, hw5⟩; clear p0 p1 p2 p3 p4; have x5 := (unhide X4).trans hw5; have p0 := x5.box 0 rfl; have p1 := x5.box 1 rfl; have p2 := x5.box 2 rfl; have p3 := x5.box 3 rfl; have p4 := x5.box 4 rfl; have X5 := hide x5; have W5 := hide ((unhide W4).trans hw5); clear hw5 x5)
      | (go_at_call 10; refine Calls.mono (rtext_any _ _) ?_; rintro e w6 ⟨rfl, hw6⟩; clear p0 p1 p2 p3 p4; have x6 := ((unhide X5).trans (Ext.alloc _ _)).trans hw6; have p0 := x6.box 0 rfl; have p1 := x6.box 1 rfl; have p2 := x6.box 2 rfl; have p3 := x6.box 3 rfl; have p4 := x6.box 4 rfl; have hlt : w2.heap.size < w6.heap.size := by have := x6.le; simp at this; omega
         have X6 := hide x6; have W6 := hide (((unhide W5).trans (Ext.alloc _ _)).trans hw6); clear hw6 x6)
      | (go_at_call 11; refine Calls.mono (unhide LC _ _ _ _ _ (by simp)) ?_; rintro e w7 ⟨v7, rfl, hr7, hw7⟩; have hr8 := hr7; rw [ls, Rep] at hr8; obtain ⟨a7, c7, rfl, -, -⟩ := hr8; have R7 := hide hr7; clear hr7; have W7 := hide (((unhide W6).trans (Ext.alloc _ _)).trans hw7); clear hw7)
      | (go_at_call 7; refine Calls.mono (vawake_any _ (tab_of T (unhide W9))) ?_; rintro e w8 ⟨rfl, hw8⟩; have W8 := hide ((unhide W9).trans hw8); clear hw8))
    go_ret
    exact ⟨rfl, unhide W8⟩

set_option maxHeartbeats 4000000 in
theorem orders_one (a0 a1 : Int) (w : World) (ht : Tab w.heap.size w) (n m : Nat) (hn : (bits .and .i64 a0 65535).tmod 1100 = n) (hn1 : n ≤ 999) (hm : (bits .and .i64 a1 65535).tmod 1100 = m) (hm1 : m < 1100)
    (hg : 999 < m) (hg0 : ¬ 1000 < n + 3) :
    Calls Tryd.prog 3 #[.int .i64 a0, .int .i64 a1] w fun e w' => e = .returned (.bool true) ∧ Ext w w' := by
  obtain ⟨Z, s, hs, hmk, hcv⟩ := zeros n (by omega)
  obtain ⟨Z', s', hs', hmk', hcv'⟩ := zeros m hm1
  have hq : listP [tx s, tx s'] = ls [tx s, nilP] := by
    rw [list_two s s' n m hs hs' hn1 hm1, if_pos hg, if_neg hg0]
  have hsz : sz (ls [tx s, nilP]) 0 = n + 3 := by
    rw [sz_two _ _ (by rw [sz_tx, sz_nil]; omega), sz_tx, sz_nil]
    omega
  have SZ := hide (fun v w (hr : Rep w (In w) (ls [tx s, nilP]) v) => top_any (ls [tx s, nilP]) v w hr)
  have HSZ := hide hsz
  have LC := hide (fun a2 c2 w T g hg => list_c s s' a2 c2 w T (by omega) (by omega) (ls [tx s, nilP]) hq g hg)
  clear hsz
  have S := hide hs
  have S1 : Hd (s.size ≤ 999) := by show s.size ≤ 999; omega
  have T := hide ht
  have hn0 : (n : Int) ≤ 999 := by omega
  clear ht hs hs' hq
  have hg1 : (999 : Int) < (m : Int) := by omega
  have hg3 : ¬ (1000 : Int) < (n : Int) + 3 := by omega
  clear hg hg0
  · skip
    go_enter Tryd.func3, Tryd.ntmps3
    go_wp2_with (first
      | (go_at_call 5; refine Calls.mono (text_good _ _ (unhide S1)) ?_; rintro e w2 ⟨a2, c2, rfl, hw2⟩; have W2 := hide ((Ext.alloc _ _).trans hw2); clear hw2)
      | (go_at_call 6; refine Calls.mono (unhide SZ _ _ ((unhide R7).ext (Ext.alloc _ _))) ?_; rintro e w9 ⟨rfl, hw9⟩; rw [unhide HSZ]; have W9 := hide (((unhide W7).trans (Ext.alloc _ _)).trans hw9); clear hw9)
      | (go_at_call 6; refine Calls.mono (size_txv s n (unhide S) hn1 _ _ _) ?_; rintro e w3 ⟨rfl, hw3⟩; have p0 := hw3.box 0 rfl; have p1 := hw3.box 1 rfl; have p2 := hw3.box 2 rfl; have p3 := hw3.box 3 rfl; have p4 := hw3.box 4 rfl; have X3 := hide hw3; have W3 := hide (((unhide W2).trans (Ext.alloc _ _)).trans hw3); clear hw3)
      | (go_at_call 8; refine Calls.mono (ok_txv s (unhide S1) _ _ _) ?_; rintro e w4 ⟨rfl, hw4⟩; clear p0 p1 p2 p3 p4; have x4 := (unhide X3).trans hw4; have p0 := x4.box 0 rfl; have p1 := x4.box 1 rfl; have p2 := x4.box 2 rfl; have p3 := x4.box 3 rfl; have p4 := x4.box 4 rfl; have X4 := hide x4; have W4 := hide ((unhide W3).trans hw4); clear hw4 x4)
      | (go_at_call 9; refine Calls.mono (truth_txv s n (unhide S) hn1 _ _ _) ?_; rintro e w5 ⟨rfl, hw5⟩; clear p0 p1 p2 p3 p4; have x5 := (unhide X4).trans hw5; have p0 := x5.box 0 rfl; have p1 := x5.box 1 rfl; have p2 := x5.box 2 rfl; have p3 := x5.box 3 rfl; have p4 := x5.box 4 rfl; have X5 := hide x5; have W5 := hide ((unhide W4).trans hw5); clear hw5 x5)
      | (go_at_call 10; refine Calls.mono (rtext_any _ _) ?_; rintro e w6 ⟨rfl, hw6⟩; clear p0 p1 p2 p3 p4; have x6 := ((unhide X5).trans (Ext.alloc _ _)).trans hw6; have p0 := x6.box 0 rfl; have p1 := x6.box 1 rfl; have p2 := x6.box 2 rfl; have p3 := x6.box 3 rfl; have p4 := x6.box 4 rfl; have hlt : w2.heap.size < w6.heap.size := by have := x6.le; simp at this; omega
         have X6 := hide x6; have W6 := hide (((unhide W5).trans (Ext.alloc _ _)).trans hw6); clear hw6 x6)
      | (go_at_call 11; refine Calls.mono (unhide LC _ _ _ _ _ (by simp)) ?_; rintro e w7 ⟨v7, rfl, hr7, hw7⟩; have hr8 := hr7; rw [ls, Rep] at hr8; obtain ⟨a7, c7, rfl, -, hl8⟩ := hr8; obtain ⟨b7, o7, a8, c8, rfl, hE8⟩ := RepL.get hl8 1 nilP rfl; have hk8 : w7.cell? ⟨b7, o7 + 5, none⟩ = some (.int .i64 0) := hE8.c0; have hb8 : b7 < w7.heap.size := hE8.f; clear hE8 hl8; have R7 := hide hr7; clear hr7; have W7 := hide (((unhide W6).trans (Ext.alloc _ _)).trans hw7); clear hw7)
      | (go_at_call 7; refine Calls.mono (vawake_any _ (tab_of T (unhide W9))) ?_; rintro e w8 ⟨rfl, hw8⟩; have W8 := hide ((unhide W9).trans hw8); clear hw8))
    go_ret
    exact ⟨rfl, unhide W8⟩

theorem orders_walk (a0 a1 : Int) (w : World) (ht : Tab w.heap.size w) :
    Calls Tryd.prog 3 #[.int .i64 a0, .int .i64 a1] w fun e w' => e = .returned (.bool true) ∧ Ext w w' := by
  obtain ⟨n, hn, hn1⟩ := mask16 a0 1100 (by decide)
  obtain ⟨m, hm, hm1⟩ := mask16 a1 1100 (by decide)
  by_cases h1 : 999 < n
  · exact orders_great a0 a1 w ht n m hn hn1 hm h1
  · by_cases h2 : (999 < m ∧ 1000 < n + 3) ∨ (¬ 999 < m ∧ 1000 < n + m + 3)
    · exact orders_nil a0 a1 w ht n m hn (by omega) hm hm1 h2
    · by_cases h3 : 999 < m
      · exact orders_one a0 a1 w ht n m hn (by omega) hm hm1 h3 (by omega)
      · exact orders_both a0 a1 w ht n m hn (by omega) hm hm1 h3 (by omega)

end Go.Proofs.YtmcmfgihdhfcdaaDoor
