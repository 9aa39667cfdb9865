/- The walk of the law LexNames: which texts are names is told as the document says. -/
import Derived.Test.YtbncceknldjbjaaDoorLawToks
import Derived.Deep.QuietTactic
import Derived.BigQuiet
set_option linter.unusedSimpArgs false
set_option linter.unusedVariables false
set_option maxRecDepth 10000
namespace Go.Proofs.YtbncceknldjbjaaDoor
open Go.RowKit

theorem lex_tok' (f : Nat) (s : ByteArray) (o : Nat) (k : Int) (t : ByteArray) (n : Int) (m : Nat) (hj : skp false ((L s).drop o) = 0) (hlt : o < s.size) (ht : tokT s o = some (k, t, n, m)) :
    lexF (f + 1) s o = (⟨k, t, n, o⟩ :: (lexF f s m).1, (lexF f s m).2) := by
  rw [lexF, hj, if_neg (by omega), Nat.add_zero, ht]

/-- A word of the kind 1 is a name: what stands there, no longer than sixteen. -/
theorem tok_kind1 {s : ByteArray} {o : Nat} {t : ByteArray} {n : Int} {m : Nat} (h : tokT s o = some (1, t, n, m)) : ∃ ho : o < s.size, nm s[o] = true ∧ dg s[o] = false ∧ t = s.extract o m ∧ n = 0 ∧ m = o + run nm ((L s).drop o) ∧ run nm ((L s).drop o) ≤ 16 := by
  by_cases ho : o < s.size
  · refine ⟨ho, ?_⟩
    cases hd : dg s[o] with
    | true =>
      rw [tok_num ho hd] at h
      unfold numT at h
      split at h
      · cases h
      · split at h
        · split at h <;> cases h
        · split at h <;> cases h
    | false =>
      cases hn : nm s[o] with
      | true =>
        rw [tok_name ho hd hn] at h
        unfold nameT at h
        split at h
        · cases h
        · rename_i h16
          injection h with h
          injection h with h1 h
          injection h with h2 h
          injection h with h3 h4
          exact ⟨rfl, rfl, by rw [← h4]; exact h2.symm, h3.symm, h4.symm, by omega⟩
      | false =>
        by_cases hq : s[o].toNat = 34
        · rw [tok_text ho hd hn hq] at h
          unfold textT at h
          obtain ⟨q, _, e⟩ := Option.map_eq_some_iff.1 h
          cases e
        · rw [tok_op ho hd hn hq] at h
          unfold opT at h
          split at h <;> cases h
  · unfold tokT at h
    rw [List.getElem?_eq_none (by rw [L_len]; omega)] at h
    cases h

theorem all_extract (s : ByteArray) : s.extract 0 s.size = s := by
  apply L_inj
  rw [L_extract, List.drop_zero, Nat.sub_zero, List.take_of_length_le (by rw [L_len]; exact Nat.le_refl _)]

theorem skp_nm (s : ByteArray) (k : Nat) (h : k < s.size) (hn : nm s[k] = true) : skp false ((L s).drop k) = 0 := by
  have := (nm_iff _).1 hn
  refine skp_none s k h ?_ ?_
  · rw [bl_iff]; omega
  · omega

theorem names_one (s : ByteArray) (h : nameB s = true) : lexF (s.size + 1) s 0 = ([⟨1, s, 0, 0⟩], none) := by
  unfold nameB at h
  cases ht : tokT s 0 with
  | none => rw [ht] at h; cases h
  | some q =>
    obtain ⟨k, t, n, m⟩ := q
    rw [ht] at h
    simp only [Bool.and_eq_true, decide_eq_true_eq] at h
    obtain ⟨_, rfl, rfl⟩ := h
    obtain ⟨ho, hn, _, rfl, rfl, _, _⟩ := tok_kind1 ht
    rw [lex_tok' s.size s 0 _ _ _ _ (skp_nm s 0 ho hn) ho ht, all_extract]
    obtain ⟨g, hg⟩ : ∃ g, s.size = g + 1 := ⟨s.size - 1, by omega⟩
    have : lexF s.size s s.size = ([], none) := by
      conv => { lhs; arg 1; rw [hg] }
      rw [lexF, if_pos (by omega)]
    rw [this]

theorem names_back (s : ByteArray) (x : Tk) (h : lexF (s.size + 1) s 0 = ([x], none)) (hk : x.k = 1) (ht : x.t = s) : nameB s = true := by
  rw [lexF] at h
  by_cases hb : s.size ≤ 0 + skp false ((L s).drop 0)
  · rw [if_pos hb] at h
    injection h with h1 _
    cases h1
  · rw [if_neg hb] at h
    cases hT : tokT s (0 + skp false ((L s).drop 0)) with
    | none =>
      rw [hT] at h
      injection h with _ h2
      cases h2
    | some q =>
      obtain ⟨k, t, n, m⟩ := q
      rw [hT] at h
      injection h with h1 _
      injection h1 with h1 _
      subst h1
      simp only [] at hk ht
      subst hk
      generalize hj : 0 + skp false ((L s).drop 0) = j at hT
      obtain ⟨ho, hn, _, ht', _, hm, h16⟩ := tok_kind1 hT
      have hlt := tok_lt s _ _ _ _ _ hT
      have hsz : (s.extract j m).size = s.size := by rw [← ht', ht]
      rw [ByteArray.size_extract] at hsz
      obtain rfl : j = 0 := by omega
      obtain rfl : m = s.size := by omega
      unfold nameB
      rw [hT]
      simp
      omega

/-- A world in which memory was made since W, nothing else. -/
structure Gw (W : World) where
  w : World
  h : Ext W w

/-- A region that draws its order, whose operations read memory that stands there and whose calls make memory alone: one walk of the text's order serves every order. -/
theorem wp_region_ext {P : Program} {id : Nat} {Q : Exit → Act → World → Prop} {a : Act} {w W : World} {l : List Oper} (hm : P.follows .mixedOrders = true) (hB : Region.lexB .any l.toArray = true) (hw : Ext W w)
    (h : wpQuiet P l.toArray (fun w' => ∃ n : Gw W, w' = n.w) (fun a' => ∀ w', (∃ n : Gw W, w' = n.w) → Q .normal a' w') l a) : (Code.region id l.toArray true).wp P Q a w :=
  wp_region_quiet (C := fun w' => ∃ n : Gw W, w' = n.w) hm hB ⟨⟨_, Ext.drew hw⟩, rfl⟩ (by simpa using h)

theorem Calls.ext_of {P : Program} {f : FuncId} {args : Array Value} {W : World} (n : Gw W) (v : Value) (h : Calls P f args n.w fun e w' => e = .returned v ∧ Ext n.w w') :
    Calls P f args n.w fun e w'' => e = .returned v ∧ ∃ m : Gw W, w'' = m.w :=
  h.mono fun _ _ ⟨he, hx⟩ => ⟨he, ⟨_, n.h.trans hx⟩, rfl⟩

set_option maxHeartbeats 8000000 in
theorem names_kind (s : ByteArray) (w : World) (k : Int) (t : ByteArray) (k1 : (k == 1) = false) (b : Bool)
    (HA : Hd (∀ W, Ext w W → Calls Tryd.prog 10 #[] W fun e w' => e = .returned (.bool true) ∧ Ext W w'))
    (HN : Hd (∀ W, Ext w W → Calls Tryd.prog 11 #[.string s] W fun e w' => e = .returned (.bool b) ∧ Ext W w'))
    (HR : Hd (∀ W, Calls Tryd.prog 9 #[.string s] W fun e w' => ∃ g cap, e = .returned (.agg #[.slice (some ⟨g, 0, none⟩) 1 cap, .int .i64 0, .int .i64 0]) ∧ (w'.cell? ⟨g, 0, none⟩ = some (.int .i64 k) ∧ w'.cell? ⟨g, 1, none⟩ = some (.string t)) ∧ Ext W w')) (hs : s.size ≤ 100) (hb : b = false) :
    Calls Tryd.prog 4 #[.string s] w fun e w' => e = .returned (.bool true) ∧ Ext w w' := by
  subst hb
  go_enter Tryd.func4, Tryd.ntmps4
  go_wp2_with (go_at_call 9; refine Calls.mono (unhide HR _) ?_; rintro r w1 ⟨g, cap, rfl, hc, hw⟩; have X := hide hw; clear hw)
  obtain ⟨W, hW⟩ : ∃ W, W = w1.alloc (.cells #[.slice (some ⟨g, 0, none⟩) 1 cap, .int .i64 0, .int .i64 0] 28) := ⟨_, rfl⟩
  rw [← hW]
  have EW : Ext w1 W := by rw [hW]; exact Ext.alloc _ _
  have XW := hide ((unhide X).trans EW)
  have d0 : W.cell? ⟨w1.heap.size, 0, none⟩ = some (.slice (some ⟨g, 0, none⟩) 1 cap) := by rw [hW]; exact cell_box _ _ _ 0 rfl
  have d2 : W.cell? ⟨w1.heap.size, 2, none⟩ = some (.int .i64 0) := by rw [hW]; exact cell_box _ _ _ 2 rfl
  clear hW
  have hne : Nonempty (Gw W) := ⟨⟨W, Ext.refl _⟩⟩
  have f0 : ∀ y : Gw W, y.w.cell? ⟨w1.heap.size, 0, none⟩ = some (.slice (some ⟨g, 0, none⟩) 1 cap) := fun y => y.h.cell d0
  have f2 : ∀ y : Gw W, y.w.cell? ⟨w1.heap.size, 2, none⟩ = some (.int .i64 0) := fun y => y.h.cell d2
  have g0 : ∀ y : Gw W, y.w.cell? ⟨g, 0, none⟩ = some (.int .i64 k) := fun y => y.h.cell (EW.cell hc.1)
  have g1 : ∀ y : Gw W, y.w.cell? ⟨g, 1, none⟩ = some (.string t) := fun y => y.h.cell (EW.cell hc.2)
  clear hc
  clear EW d0 d2
  refine wp_region_ext (W := W) (by kernel_rfl) (by kernel_rfl) (Ext.refl _) ?_
  repeat (go_big_quiet_step (first
    | (go_at_call 11; exact Calls.ext_of _ _ (unhide HN _ ((unhide XW).trans (Gw.h _))))
    | (go_at_call 10; exact Calls.ext_of _ _ (unhide HA _ ((unhide XW).trans (Gw.h _))))))
  refine wpQuiet_nil ?_
  rintro _ ⟨⟨w', hx⟩, rfl⟩
  go_wp2
  go_ret
  exact ⟨rfl, (unhide XW).trans hx⟩

set_option maxHeartbeats 8000000 in
theorem names_text (s : ByteArray) (w : World) (k : Int) (t : ByteArray) (k1 : (k == 1) = true) (t1 : (t.toList == s.toList) = false) (b : Bool)
    (HA : Hd (∀ W, Ext w W → Calls Tryd.prog 10 #[] W fun e w' => e = .returned (.bool true) ∧ Ext W w'))
    (HN : Hd (∀ W, Ext w W → Calls Tryd.prog 11 #[.string s] W fun e w' => e = .returned (.bool b) ∧ Ext W w'))
    (HR : Hd (∀ W, Calls Tryd.prog 9 #[.string s] W fun e w' => ∃ g cap, e = .returned (.agg #[.slice (some ⟨g, 0, none⟩) 1 cap, .int .i64 0, .int .i64 0]) ∧ (w'.cell? ⟨g, 0, none⟩ = some (.int .i64 k) ∧ w'.cell? ⟨g, 1, none⟩ = some (.string t)) ∧ Ext W w')) (hs : s.size ≤ 100) (hb : b = false) :
    Calls Tryd.prog 4 #[.string s] w fun e w' => e = .returned (.bool true) ∧ Ext w w' := by
  subst hb
  go_enter Tryd.func4, Tryd.ntmps4
  go_wp2_with (go_at_call 9; refine Calls.mono (unhide HR _) ?_; rintro r w1 ⟨g, cap, rfl, hc, hw⟩; have X := hide hw; clear hw)
  obtain ⟨W, hW⟩ : ∃ W, W = w1.alloc (.cells #[.slice (some ⟨g, 0, none⟩) 1 cap, .int .i64 0, .int .i64 0] 28) := ⟨_, rfl⟩
  rw [← hW]
  have EW : Ext w1 W := by rw [hW]; exact Ext.alloc _ _
  have XW := hide ((unhide X).trans EW)
  have d0 : W.cell? ⟨w1.heap.size, 0, none⟩ = some (.slice (some ⟨g, 0, none⟩) 1 cap) := by rw [hW]; exact cell_box _ _ _ 0 rfl
  have d2 : W.cell? ⟨w1.heap.size, 2, none⟩ = some (.int .i64 0) := by rw [hW]; exact cell_box _ _ _ 2 rfl
  clear hW
  have hne : Nonempty (Gw W) := ⟨⟨W, Ext.refl _⟩⟩
  have f0 : ∀ y : Gw W, y.w.cell? ⟨w1.heap.size, 0, none⟩ = some (.slice (some ⟨g, 0, none⟩) 1 cap) := fun y => y.h.cell d0
  have f2 : ∀ y : Gw W, y.w.cell? ⟨w1.heap.size, 2, none⟩ = some (.int .i64 0) := fun y => y.h.cell d2
  have g0 : ∀ y : Gw W, y.w.cell? ⟨g, 0, none⟩ = some (.int .i64 k) := fun y => y.h.cell (EW.cell hc.1)
  have g1 : ∀ y : Gw W, y.w.cell? ⟨g, 1, none⟩ = some (.string t) := fun y => y.h.cell (EW.cell hc.2)
  clear hc
  clear EW d0 d2
  refine wp_region_ext (W := W) (by kernel_rfl) (by kernel_rfl) (Ext.refl _) ?_
  repeat (go_big_quiet_step (first
    | (go_at_call 11; exact Calls.ext_of _ _ (unhide HN _ ((unhide XW).trans (Gw.h _))))
    | (go_at_call 10; exact Calls.ext_of _ _ (unhide HA _ ((unhide XW).trans (Gw.h _))))))
  refine wpQuiet_nil ?_
  rintro _ ⟨⟨w', hx⟩, rfl⟩
  go_wp2
  go_ret
  exact ⟨rfl, (unhide XW).trans hx⟩

set_option maxHeartbeats 8000000 in
theorem names_yes (s : ByteArray) (w : World) (k : Int) (t : ByteArray) (k1 : (k == 1) = true) (t1 : (t.toList == s.toList) = true) (b : Bool)
    (HA : Hd (∀ W, Ext w W → Calls Tryd.prog 10 #[] W fun e w' => e = .returned (.bool true) ∧ Ext W w'))
    (HN : Hd (∀ W, Ext w W → Calls Tryd.prog 11 #[.string s] W fun e w' => e = .returned (.bool b) ∧ Ext W w'))
    (HR : Hd (∀ W, Calls Tryd.prog 9 #[.string s] W fun e w' => ∃ g cap, e = .returned (.agg #[.slice (some ⟨g, 0, none⟩) 1 cap, .int .i64 0, .int .i64 0]) ∧ (w'.cell? ⟨g, 0, none⟩ = some (.int .i64 k) ∧ w'.cell? ⟨g, 1, none⟩ = some (.string t)) ∧ Ext W w')) (hs : s.size ≤ 100) (hb : b = true) :
    Calls Tryd.prog 4 #[.string s] w fun e w' => e = .returned (.bool true) ∧ Ext w w' := by
  subst hb
  go_enter Tryd.func4, Tryd.ntmps4
  go_wp2_with (go_at_call 9; refine Calls.mono (unhide HR _) ?_; rintro r w1 ⟨g, cap, rfl, hc, hw⟩; have X := hide hw; clear hw)
  obtain ⟨W, hW⟩ : ∃ W, W = w1.alloc (.cells #[.slice (some ⟨g, 0, none⟩) 1 cap, .int .i64 0, .int .i64 0] 28) := ⟨_, rfl⟩
  rw [← hW]
  have EW : Ext w1 W := by rw [hW]; exact Ext.alloc _ _
  have XW := hide ((unhide X).trans EW)
  have d0 : W.cell? ⟨w1.heap.size, 0, none⟩ = some (.slice (some ⟨g, 0, none⟩) 1 cap) := by rw [hW]; exact cell_box _ _ _ 0 rfl
  have d2 : W.cell? ⟨w1.heap.size, 2, none⟩ = some (.int .i64 0) := by rw [hW]; exact cell_box _ _ _ 2 rfl
  clear hW
  have hne : Nonempty (Gw W) := ⟨⟨W, Ext.refl _⟩⟩
  have f0 : ∀ y : Gw W, y.w.cell? ⟨w1.heap.size, 0, none⟩ = some (.slice (some ⟨g, 0, none⟩) 1 cap) := fun y => y.h.cell d0
  have f2 : ∀ y : Gw W, y.w.cell? ⟨w1.heap.size, 2, none⟩ = some (.int .i64 0) := fun y => y.h.cell d2
  have g0 : ∀ y : Gw W, y.w.cell? ⟨g, 0, none⟩ = some (.int .i64 k) := fun y => y.h.cell (EW.cell hc.1)
  have g1 : ∀ y : Gw W, y.w.cell? ⟨g, 1, none⟩ = some (.string t) := fun y => y.h.cell (EW.cell hc.2)
  clear hc
  clear EW d0 d2
  refine wp_region_ext (W := W) (by kernel_rfl) (by kernel_rfl) (Ext.refl _) ?_
  repeat (go_big_quiet_step (first
    | (go_at_call 11; exact Calls.ext_of _ _ (unhide HN _ ((unhide XW).trans (Gw.h _))))
    | (go_at_call 10; exact Calls.ext_of _ _ (unhide HA _ ((unhide XW).trans (Gw.h _))))))
  refine wpQuiet_nil ?_
  rintro _ ⟨⟨w', hx⟩, rfl⟩
  go_wp2
  go_ret
  exact ⟨rfl, (unhide XW).trans hx⟩

set_option maxHeartbeats 8000000 in
theorem names_many (s : ByteArray) (w : World) (n : Nat) (n1 : ((n : Int) == 1) = false) (b : Bool)
    (HA : Hd (∀ W, Ext w W → Calls Tryd.prog 10 #[] W fun e w' => e = .returned (.bool true) ∧ Ext W w'))
    (HN : Hd (∀ W, Ext w W → Calls Tryd.prog 11 #[.string s] W fun e w' => e = .returned (.bool b) ∧ Ext W w'))
    (HR : Hd (∀ W, Calls Tryd.prog 9 #[.string s] W fun e w' => ∃ p c, e = .returned (.agg #[.slice p n c, .int .i64 0, .int .i64 0]) ∧ Ext W w')) (hs : s.size ≤ 100) (hb : b = false) :
    Calls Tryd.prog 4 #[.string s] w fun e w' => e = .returned (.bool true) ∧ Ext w w' := by
  subst hb
  go_enter Tryd.func4, Tryd.ntmps4
  go_wp2_with (go_at_call 9; refine Calls.mono (unhide HR _) ?_; rintro r w1 ⟨p, c, rfl, hw⟩; have X := hide hw; clear hw)
  obtain ⟨W, hW⟩ : ∃ W, W = w1.alloc (.cells #[.slice p n c, .int .i64 0, .int .i64 0] 28) := ⟨_, rfl⟩
  rw [← hW]
  have EW : Ext w1 W := by rw [hW]; exact Ext.alloc _ _
  have XW := hide ((unhide X).trans EW)
  have d0 : W.cell? ⟨w1.heap.size, 0, none⟩ = some (.slice p n c) := by rw [hW]; exact cell_box _ _ _ 0 rfl
  have d2 : W.cell? ⟨w1.heap.size, 2, none⟩ = some (.int .i64 0) := by rw [hW]; exact cell_box _ _ _ 2 rfl
  clear hW
  have hne : Nonempty (Gw W) := ⟨⟨W, Ext.refl _⟩⟩
  have f0 : ∀ y : Gw W, y.w.cell? ⟨w1.heap.size, 0, none⟩ = some (.slice p n c) := fun y => y.h.cell d0
  have f2 : ∀ y : Gw W, y.w.cell? ⟨w1.heap.size, 2, none⟩ = some (.int .i64 0) := fun y => y.h.cell d2
  clear EW d0 d2
  refine wp_region_ext (W := W) (by kernel_rfl) (by kernel_rfl) (Ext.refl _) ?_
  repeat (go_big_quiet_step (first
    | (go_at_call 11; exact Calls.ext_of _ _ (unhide HN _ ((unhide XW).trans (Gw.h _))))
    | (go_at_call 10; exact Calls.ext_of _ _ (unhide HA _ ((unhide XW).trans (Gw.h _))))))
  refine wpQuiet_nil ?_
  rintro _ ⟨⟨w', hx⟩, rfl⟩
  go_wp2
  go_ret
  exact ⟨rfl, (unhide XW).trans hx⟩

set_option maxHeartbeats 8000000 in
theorem names_bad (s : ByteArray) (w : World) (a : Nat) (b : Bool)
    (HA : Hd (∀ W, Ext w W → Calls Tryd.prog 10 #[] W fun e w' => e = .returned (.bool true) ∧ Ext W w'))
    (HN : Hd (∀ W, Ext w W → Calls Tryd.prog 11 #[.string s] W fun e w' => e = .returned (.bool b) ∧ Ext W w'))
    (HR : Hd (∀ W, Calls Tryd.prog 9 #[.string s] W fun e w' => e = .returned (.agg #[.slice none 0 0, .int .i64 a, .int .i64 10]) ∧ Ext W w')) (hs : s.size ≤ 100) (hb : b = false) :
    Calls Tryd.prog 4 #[.string s] w fun e w' => e = .returned (.bool true) ∧ Ext w w' := by
  subst hb
  go_enter Tryd.func4, Tryd.ntmps4
  go_wp2_with (go_at_call 9; refine Calls.mono (unhide HR _) ?_; rintro r w1 ⟨rfl, hw⟩; have X := hide hw; clear hw)
  obtain ⟨W, hW⟩ : ∃ W, W = w1.alloc (.cells #[.slice none 0 0, .int .i64 a, .int .i64 10] 28) := ⟨_, rfl⟩
  rw [← hW]
  have EW : Ext w1 W := by rw [hW]; exact Ext.alloc _ _
  have XW := hide ((unhide X).trans EW)
  have d0 : W.cell? ⟨w1.heap.size, 0, none⟩ = some (.slice none 0 0) := by rw [hW]; exact cell_box _ _ _ 0 rfl
  have d2 : W.cell? ⟨w1.heap.size, 2, none⟩ = some (.int .i64 10) := by rw [hW]; exact cell_box _ _ _ 2 rfl
  clear hW
  have hne : Nonempty (Gw W) := ⟨⟨W, Ext.refl _⟩⟩
  have f0 : ∀ y : Gw W, y.w.cell? ⟨w1.heap.size, 0, none⟩ = some (.slice none 0 0) := fun y => y.h.cell d0
  have f2 : ∀ y : Gw W, y.w.cell? ⟨w1.heap.size, 2, none⟩ = some (.int .i64 10) := fun y => y.h.cell d2
  clear EW d0 d2
  refine wp_region_ext (W := W) (by kernel_rfl) (by kernel_rfl) (Ext.refl _) ?_
  repeat (go_big_quiet_step (first
    | (go_at_call 11; exact Calls.ext_of _ _ (unhide HN _ ((unhide XW).trans (Gw.h _))))
    | (go_at_call 10; exact Calls.ext_of _ _ (unhide HA _ ((unhide XW).trans (Gw.h _))))))
  refine wpQuiet_nil ?_
  rintro _ ⟨⟨w', hx⟩, rfl⟩
  go_wp2
  go_ret
  exact ⟨rfl, (unhide XW).trans hx⟩

set_option maxHeartbeats 2000000 in
theorem names_long (s : ByteArray) (w : World) (he : Er w) (h5 : 100 < s.size) (hs : s.size ≤ 9223372036854775807) :
    Calls Tryd.prog 4 #[.string s] w fun e w' => e = .returned (.bool true) ∧ Ext w w' := by
  have HA := hide (fun W (x : Ext w W) => awake_any W (he.on x))
  go_enter Tryd.func4, Tryd.ntmps4
  go_wp2_with (go_at_call 10; refine Calls.mono (unhide HA _ (Ext.refl _)) ?_; rintro e w1 ⟨rfl, hw⟩; have X := hide hw; clear hw)
  go_ret
  exact ⟨rfl, unhide X⟩

theorem names_walk (s : ByteArray) (w : World) (he : Er w) (hs : s.size ≤ 9223372036854775807) :
    Calls Tryd.prog 4 #[.string s] w fun e w' => e = .returned (.bool true) ∧ Ext w w' := by
  by_cases h5 : 100 < s.size
  · exact names_long s w he h5 hs
  · have h5 : s.size ≤ 100 := by omega
    have HA := hide (fun W (x : Ext w W) => awake_any W (he.on x))
    have HN := hide (fun W (x : Ext w W) => lname_any s W (he.on x) (by omega))
    obtain ⟨ts, o, hl⟩ : ∃ ts o, lexF (s.size + 1) s 0 = (ts, o) := ⟨_, _, rfl⟩
    have hno : (∀ x, (ts, o) ≠ ([x], none)) → nameB s = false := by
      intro h
      cases hb : nameB s with
      | false => rfl
      | true => exact absurd (hl.symm.trans (names_one s hb)) (h _)
    cases o with
    | some b => exact names_bad s w b _ HA HN (hide fun W => rtokens_bad s ts b W (by omega) hl) h5 (hno fun x h => by cases h)
    | none =>
      match ts, hl with
      | [], hl => exact names_many s w 0 rfl _ HA HN (hide fun W => rtokens_none s W (by omega) hl) h5 (hno fun x h => by cases h)
      | [x], hl =>
        have HR : Hd (∀ W, Calls Tryd.prog 9 #[.string s] W fun e w' => ∃ g cap, e = .returned (.agg #[.slice (some ⟨g, 0, none⟩) 1 cap, .int .i64 0, .int .i64 0]) ∧ (w'.cell? ⟨g, 0, none⟩ = some (.int .i64 x.k) ∧ w'.cell? ⟨g, 1, none⟩ = some (.string x.t)) ∧ Ext W w') := by
          intro W
          refine (rtokens_is s [x] W (by omega) hl (by simp)).mono ?_
          rintro e w' ⟨g, cap, rfl, hc, hx⟩
          exact ⟨g, cap, rfl, ⟨hc 0 _ rfl, hc 1 _ rfl⟩, hx⟩
        by_cases hk : x.k = 1
        · by_cases ht : x.t = s
          · exact names_yes s w x.k x.t (by simp [hk]) (by rw [ht]; simp) _ HA HN HR h5 (names_back s x hl hk ht)
          · refine names_text s w x.k x.t (by simp [hk]) ?_ _ HA HN HR h5 ?_
            · rw [toL, toL, ← Bool.not_eq_true, beq_iff_eq]
              exact fun h => ht (L_inj h)
            · cases hb : nameB s with
              | false => rfl
              | true =>
                have := hl.symm.trans (names_one s hb)
                injection this with h1 _
                injection h1 with h1 _
                rw [h1] at ht
                exact absurd rfl ht
        · refine names_kind s w x.k x.t (by simp [hk]) _ HA HN HR h5 ?_
          cases hb : nameB s with
          | false => rfl
          | true =>
            have := hl.symm.trans (names_one s hb)
            injection this with h1 _
            injection h1 with h1 _
            rw [h1] at hk
            exact absurd rfl hk
      | x :: y :: r, hl =>
        refine names_many s w (r.length + 2) (by simp; omega) _ HA HN ?_ h5 (hno fun z h => by cases h)
        intro W
        refine (rtokens_is s (x :: y :: r) W (by omega) hl (by simp)).mono ?_
        rintro e w' ⟨g, cap, rfl, hc, hx⟩
        exact ⟨_, _, rfl, hx⟩

end Go.Proofs.YtbncceknldjbjaaDoor
