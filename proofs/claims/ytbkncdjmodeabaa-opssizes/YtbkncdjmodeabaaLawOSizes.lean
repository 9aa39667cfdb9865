/- The walk of the law OpsSizes: what would be too great is told as such, just from the bound on. -/
import Derived.Test.YtbkncdjmodeabaaOpsSzLst
import Derived.Deep.DeepCutAuto
set_option linter.unusedSimpArgs false
set_option linter.unusedVariables false
set_option maxRecDepth 10000
namespace Go.Proofs.Ytbkncdjmodeabaa
open Go.RowKit

theorem mask16 (a : Int) (k : Nat) (hk : 0 < k) : ∃ n : Nat, (bits .and .i64 a 65535).tmod (k : Int) = n ∧ n < k := by
  have h : ∃ n : Nat, bits .and .i64 a 65535 = n ∧ n ≤ 65535 := by
    refine ⟨(BitVec.ofInt 64 a &&& BitVec.ofInt 64 65535).toNat, ?_, ?_⟩
    · have hl : (BitVec.ofInt 64 a &&& BitVec.ofInt 64 65535).toNat ≤ 65535 := by
        rw [BitVec.toNat_and]; exact Nat.and_le_right
      show IntKind.wrap .i64 ((BitVec.ofInt 64 a &&& BitVec.ofInt 64 65535).toNat : Int) = _
      generalize (BitVec.ofInt 64 a &&& BitVec.ofInt 64 65535).toNat = n at hl
      have e : IntKind.wrap .i64 (n : Int) = if (true && decide ((n : Int) % (18446744073709551616 : Int) ≥ (9223372036854775808 : Int))) = true then (n : Int) % 18446744073709551616 - 18446744073709551616 else (n : Int) % 18446744073709551616 := rfl
      rw [e]
      have : decide ((n : Int) % (18446744073709551616 : Int) ≥ (9223372036854775808 : Int)) = false := by
        rw [decide_eq_false_iff_not]; omega
      rw [this]
      simp only [Bool.and_false, Bool.false_eq_true, if_false]
      omega
    · rw [BitVec.toNat_and]; exact Nat.and_le_right
  obtain ⟨n, hn, _⟩ := h
  refine ⟨n % k, ?_, Nat.mod_lt _ hk⟩
  rw [hn]
  exact (Int.ofNat_tmod n k).symm

/-- Ten slots of a frame set, in their order. -/
def chain10 (B : Array Value) (x7 x8 y0 y1 y2 y3 y4 y5 y6 y7 : Value) : Array Value :=
  (((((((((B.setIfInBounds 7 x7).setIfInBounds 8 x8).setIfInBounds 19 y0).setIfInBounds 20 y1).setIfInBounds 21 y2).setIfInBounds 22 y3).setIfInBounds 23 y4).setIfInBounds 24 y5).setIfInBounds 25 y6).setIfInBounds 26 y7

theorem Fr.chain {A : Array Value} {a : Act} (hs : A.size = 92) (h : Fr A a) {x7 x8 : Value} (h7 : a.tmps[7]? = some x7) (h8 : a.tmps[8]? = some x8) : ∃ y0 y1 y2 y3 y4 y5 y6 y7, a.tmps = chain10 A x7 x8 y0 y1 y2 y3 y4 y5 y6 y7 := by
  have hl := h.len
  have e : ∀ k, k < 92 → ∃ v, a.tmps[k]? = some v := fun k hk => ⟨_, Array.getElem?_eq_getElem (by omega)⟩
  obtain ⟨y0, e0⟩ := e 19 (by decide)
  obtain ⟨y1, e1⟩ := e 20 (by decide)
  obtain ⟨y2, e2⟩ := e 21 (by decide)
  obtain ⟨y3, e3⟩ := e 22 (by decide)
  obtain ⟨y4, e4⟩ := e 23 (by decide)
  obtain ⟨y5, e5⟩ := e 24 (by decide)
  obtain ⟨y6, e6⟩ := e 25 (by decide)
  obtain ⟨y7, e7⟩ := e 26 (by decide)
  refine ⟨y0, y1, y2, y3, y4, y5, y6, y7, Array.ext_getElem? fun k => ?_⟩
  unfold chain10
  simp only [Array.getElem?_setIfInBounds, Array.size_setIfInBounds, hs]
  by_cases q7 : k = 26
  · subst q7; simpa using e7
  by_cases q6 : k = 25
  · subst q6; simpa using e6
  by_cases q5 : k = 24
  · subst q5; simpa using e5
  by_cases q4 : k = 23
  · subst q4; simpa using e4
  by_cases q3 : k = 22
  · subst q3; simpa using e3
  by_cases q2 : k = 21
  · subst q2; simpa using e2
  by_cases q1 : k = 20
  · subst q1; simpa using e1
  by_cases q0 : k = 19
  · subst q0; simpa using e0
  by_cases p8 : k = 8
  · subst p8; simpa using h8
  by_cases p7 : k = 7
  · subst p7; simpa using h7
  rw [h.keep k (fun i hi => ?_)]
  · simp [Ne.symm q7, Ne.symm q6, Ne.symm q5, Ne.symm q4, Ne.symm q3, Ne.symm q2, Ne.symm q1, Ne.symm q0, Ne.symm p8, Ne.symm p7]
  · rcases (show i = 0 ∨ i = 1 ∨ i = 2 ∨ i = 3 ∨ i = 4 ∨ i = 5 ∨ i = 6 ∨ i = 7 ∨ i = 8 ∨ i = 9 by omega) with rfl | rfl | rfl | rfl | rfl | rfl | rfl | rfl | rfl | rfl <;> assumption

theorem two_abs {P : Program} {c : Code} {Q : Exit → Act → World → Prop} {A : Array Value} {W : World} {s s' : ByteArray} (hs : A.size = 92)
    (h1 : ∀ B : Array Value, B = A → c.wp P (Post2 B W s s') ⟨B, []⟩ W)
    (h2 : ∀ g g' y0 y1 y2 y3 y4 y5 y6 y7 w', Two W s s' w' g g' → Q .normal ⟨chain10 A (ptr g) (ptr g') y0 y1 y2 y3 y4 y5 y6 y7, []⟩ w') : c.wp P Q ⟨A, []⟩ W := by
  refine Code.wp_mono ?_ (h1 A rfl)
  intro e a' w' h
  cases e with
  | normal =>
    have hP : PB A W s s' true a' w' := h
    obtain ⟨g, g', hg, hg', hne, lo, lo', hr, hr'⟩ := hP.two
    obtain ⟨y0, y1, y2, y3, y4, y5, y6, y7, ht⟩ := hP.fr.chain hs hg hg'
    have := h2 g g' y0 y1 y2 y3 y4 y5 y6 y7 w' ⟨hP.ext, hne, lo, lo', hr, hr'⟩
    rw [← ht] at this
    have ha : a' = ⟨a'.tmps, []⟩ := by rw [← hP.fr.d]
    rw [ha]
    exact this
  | exit _ => exact h.elim
  | goto _ => exact h.elim
  | ret => exact h.elim
  | panic _ => exact h.elim
  | outgrown => exact h.elim

set_option maxHeartbeats 4000000 in
theorem texts_kind (a b : Int) (w : World) (n m : Nat) (hn : (bits .and .i64 a 65535).tmod 1100 = (n : Int)) (hm : (bits .and .i64 b 65535).tmod 1100 = (m : Int)) (hn1 : n < 1100) (hm1 : m < 1100) (h : 999 < n ∨ 999 < m) :
    Calls Try.prog 4 #[.int .i64 a, .int .i64 b, .bool false] w fun e w' => e = .returned (.bool true) ∧ Ext w w' := by
  obtain ⟨Z, s, hs, mk, cv⟩ := zeros2 n hn1
  obtain ⟨Z', s', hs', mk', cv'⟩ := zeros2 m hm1
  have BA := hide (fun W => bin_tt_kind s s' W (by omega) (by omega) (by omega))
  go_enter Try.func4, Try.ntmps4
  go_upto_region 2 with fail
  refine two_abs (s := s) (s' := s') rfl (fun B hB => ?_) ?_
  · subst hB
    exact region2 _ w n m Z Z' s s' rfl rfl rfl mk mk' (hide cv) (hide cv')
  rintro g g' y0 y1 y2 y3 y4 y5 y6 y7 wx hT
  rename_i hK
  refine hK _ _ ?_
  clear hK mk mk' cv cv'
  simp only [chain10, List.setIfInBounds_toArray, List.set_cons_zero, List.set_cons_succ]
  have fX := Five.ofRow hT.row
  have fY := Five.ofRow hT.row'
  have x0 := fX.c0
  have x1 := fX.c1
  have x2 := fX.c2
  have x3 := fX.c3
  have x4 := fX.c4
  have z0 := fY.c0
  have z1 := fY.c1
  have z2 := fY.c2
  have z3 := fY.c3
  have z4 := fY.c4
  have V2 := hide hT.ext
  clear fX fY hT
  go_wp2_with (first
    | (go_at_call 6; refine Calls.mono (unhide BA _) ?_; rintro e w3 ⟨r3, rfl, hr3, hw3⟩; rw [nilP, Rep] at hr3; obtain ⟨a3, c3, rfl, -, -⟩ := hr3; have V3 := hide ((unhide V2).trans hw3); clear hw3)
    | (go_at_call 7; refine Calls.mono (oawake_any _) ?_; rintro e w9 ⟨rfl, hw9⟩; have V9 := hide (((unhide V3).trans (Ext.alloc _ _)).trans hw9); clear hw9))
  all_goals
    go_ret
    exact ⟨rfl, unhide V9⟩

set_option maxHeartbeats 4000000 in
theorem texts_big (a b : Int) (w : World) (n m : Nat) (hn : (bits .and .i64 a 65535).tmod 1100 = (n : Int)) (hm : (bits .and .i64 b 65535).tmod 1100 = (m : Int)) (hn1 : n < 1100) (hm1 : m < 1100) (h1 : n ≤ 999) (h2 : m ≤ 999) (h : ¬ n + m ≤ 999) :
    Calls Try.prog 4 #[.int .i64 a, .int .i64 b, .bool false] w fun e w' => e = .returned (.bool true) ∧ Ext w w' := by
  obtain ⟨Z, s, hs, mk, cv⟩ := zeros2 n hn1
  obtain ⟨Z', s', hs', mk', cv'⟩ := zeros2 m hm1
  have BA := hide (fun W => bin_tt_big s s' W (by omega) (by omega) (by omega))
  go_enter Try.func4, Try.ntmps4
  go_upto_region 2 with fail
  refine two_abs (s := s) (s' := s') rfl (fun B hB => ?_) ?_
  · subst hB
    exact region2 _ w n m Z Z' s s' rfl rfl rfl mk mk' (hide cv) (hide cv')
  rintro g g' y0 y1 y2 y3 y4 y5 y6 y7 wx hT
  rename_i hK
  refine hK _ _ ?_
  clear hK mk mk' cv cv'
  simp only [chain10, List.setIfInBounds_toArray, List.set_cons_zero, List.set_cons_succ]
  have fX := Five.ofRow hT.row
  have fY := Five.ofRow hT.row'
  have x0 := fX.c0
  have x1 := fX.c1
  have x2 := fX.c2
  have x3 := fX.c3
  have x4 := fX.c4
  have z0 := fY.c0
  have z1 := fY.c1
  have z2 := fY.c2
  have z3 := fY.c3
  have z4 := fY.c4
  have V2 := hide hT.ext
  clear fX fY hT
  go_wp2_with (first
    | (go_at_call 6; refine Calls.mono (unhide BA _) ?_; rintro e w3 ⟨r3, rfl, hr3, hw3⟩; rw [nilP, Rep] at hr3; obtain ⟨a3, c3, rfl, -, -⟩ := hr3; have V3 := hide ((unhide V2).trans hw3); clear hw3)
    | (go_at_call 7; refine Calls.mono (oawake_any _) ?_; rintro e w9 ⟨rfl, hw9⟩; have V9 := hide (((unhide V3).trans (Ext.alloc _ _)).trans hw9); clear hw9))
  all_goals
    go_ret
    exact ⟨rfl, unhide V9⟩

set_option maxHeartbeats 4000000 in
theorem texts_ok (a b : Int) (w : World) (n m : Nat) (hn : (bits .and .i64 a 65535).tmod 1100 = (n : Int)) (hm : (bits .and .i64 b 65535).tmod 1100 = (m : Int)) (hn1 : n < 1100) (hm1 : m < 1100) (h : n + m ≤ 999) :
    Calls Try.prog 4 #[.int .i64 a, .int .i64 b, .bool false] w fun e w' => e = .returned (.bool true) ∧ Ext w w' := by
  obtain ⟨Z, s, hs, mk, cv⟩ := zeros2 n hn1
  obtain ⟨Z', s', hs', mk', cv'⟩ := zeros2 m hm1
  have BA := hide (fun W => bin_tt s s' W (by omega))
  obtain ⟨k, hk⟩ : ∃ k : Nat, k = n + m := ⟨_, rfl⟩
  have UL := hide (fun ad c W => un_lenT (s ++ s') W (by rw [ByteArray.size_append]; omega) ad c)
  have hsz : (s ++ s').size = n + m := by rw [ByteArray.size_append, hs, hs']
  rw [hsz] at UL
  go_enter Try.func4, Try.ntmps4
  go_upto_region 2 with fail
  refine two_abs (s := s) (s' := s') rfl (fun B hB => ?_) ?_
  · subst hB
    exact region2 _ w n m Z Z' s s' rfl rfl rfl mk mk' (hide cv) (hide cv')
  rintro g g' y0 y1 y2 y3 y4 y5 y6 y7 wx hT
  rename_i hK
  refine hK _ _ ?_
  clear hK mk mk' cv cv'
  simp only [chain10, List.setIfInBounds_toArray, List.set_cons_zero, List.set_cons_succ]
  have fX := Five.ofRow hT.row
  have fY := Five.ofRow hT.row'
  have x0 := fX.c0
  have x1 := fX.c1
  have x2 := fX.c2
  have x3 := fX.c3
  have x4 := fX.c4
  have z0 := fY.c0
  have z1 := fY.c1
  have z2 := fY.c2
  have z3 := fY.c3
  have z4 := fY.c4
  have V2 := hide hT.ext
  clear fX fY hT
  go_wp2_with (first
    | (go_at_call 6; refine Calls.mono (unhide BA _) ?_; rintro e w3 ⟨r3, rfl, hr3, hw3⟩; rw [tx, Rep] at hr3; obtain ⟨a3, c3, rfl, -, -⟩ := hr3; have V3 := hide ((unhide V2).trans hw3); clear hw3)
    | (go_at_call 9; refine Calls.mono (unhide UL _ _ _) ?_; rintro e w4 ⟨r4, rfl, hr4, hw4⟩; rw [it, Rep] at hr4; obtain ⟨a4, c4, rfl, -, -⟩ := hr4; have V4 := hide ((unhide V3).trans ((Ext.alloc _ _).trans hw4)); clear hw4)
    | (go_at_call 7; refine Calls.mono (oawake_any _) ?_; rintro e w9 ⟨rfl, hw9⟩; have V9 := hide (((unhide V4).trans (Ext.alloc _ _)).trans hw9); clear hw9))
  all_goals
    go_ret
    exact ⟨rfl, unhide V9⟩

/-- Six slots of a frame set, in their order. -/
def chain6 (B : Array Value) (y0 y1 y2 y3 y4 y5 : Value) : Array Value :=
  (((((B.setIfInBounds 28 y0).setIfInBounds 29 y1).setIfInBounds 30 y2).setIfInBounds 31 y3).setIfInBounds 32 y4).setIfInBounds 33 y5

theorem Fr4.chain {A : Array Value} {a : Act} (hs : A.size = 92) (h : Fr4 A a) : ∃ y0 y1 y2 y3 y4 y5, a.tmps = chain6 A y0 y1 y2 y3 y4 y5 := by
  have hl := h.len
  have e : ∀ k, k < 92 → ∃ v, a.tmps[k]? = some v := fun k hk => ⟨_, Array.getElem?_eq_getElem (by omega)⟩
  obtain ⟨y0, e0⟩ := e 28 (by decide)
  obtain ⟨y1, e1⟩ := e 29 (by decide)
  obtain ⟨y2, e2⟩ := e 30 (by decide)
  obtain ⟨y3, e3⟩ := e 31 (by decide)
  obtain ⟨y4, e4⟩ := e 32 (by decide)
  obtain ⟨y5, e5⟩ := e 33 (by decide)
  refine ⟨y0, y1, y2, y3, y4, y5, Array.ext_getElem? fun k => ?_⟩
  unfold chain6
  simp only [Array.getElem?_setIfInBounds, Array.size_setIfInBounds, hs]
  by_cases q5 : k = 33
  · subst q5; simpa using e5
  by_cases q4 : k = 32
  · subst q4; simpa using e4
  by_cases q3 : k = 31
  · subst q3; simpa using e3
  by_cases q2 : k = 30
  · subst q2; simpa using e2
  by_cases q1 : k = 29
  · subst q1; simpa using e1
  by_cases q0 : k = 28
  · subst q0; simpa using e0
  rw [h.keep k (fun i hi => ?_)]
  · simp [Ne.symm q5, Ne.symm q4, Ne.symm q3, Ne.symm q2, Ne.symm q1, Ne.symm q0]
  · rcases (show i = 0 ∨ i = 1 ∨ i = 2 ∨ i = 3 ∨ i = 4 ∨ i = 5 by omega) with rfl | rfl | rfl | rfl | rfl | rfl <;> assumption

/-- What holds of memory behind the second region. -/
structure TwoL (W0 : World) (g g' n m : Nat) (w : World) (h h' : Nat) : Prop where
  ext : Ext W0 w
  made1 : w.heap[h]? = some (made n)
  made2 : w.heap[h']? = some (made m)
  row : w.heap[g]? = some (rowL h n)
  row' : w.heap[g']? = some (rowL h' m)

theorem four_abs {P : Program} {c : Code} {Q : Exit → Act → World → Prop} {A : Array Value} {W0 W : World} {g g' n m : Nat} {s' : ByteArray} (hs : A.size = 92)
    (h1 : ∀ B : Array Value, B = A → c.wp P (Post4 B W0 W g g' n m s') ⟨B, []⟩ W)
    (h2 : ∀ h h' y0 y1 y2 y3 y4 y5 w', TwoL W0 g g' n m w' h h' → Q .normal ⟨chain6 A y0 y1 y2 y3 y4 y5, []⟩ w') : c.wp P Q ⟨A, []⟩ W := by
  refine Code.wp_mono ?_ (h1 A rfl)
  intro e a' w' h
  cases e with
  | normal =>
    have hP : PB4 A W0 W g g' n m s' true a' w' := h
    obtain ⟨h, h', hg', lo, lo', hr, hr', rg, rg'⟩ := hP.two
    obtain ⟨y0, y1, y2, y3, y4, y5, ht⟩ := hP.fr.chain hs
    have := h2 h h' y0 y1 y2 y3 y4 y5 w' ⟨hP.ext, hr, hr', rg, rg'⟩
    rw [← ht] at this
    have ha : a' = ⟨a'.tmps, []⟩ := by rw [← hP.fr.d]
    rw [ha]
    exact this
  | exit _ => exact h.elim
  | goto _ => exact h.elim
  | ret => exact h.elim
  | panic _ => exact h.elim
  | outgrown => exact h.elim

theorem un_lenL (k : Nat) (a : Option Addr) (c : Nat) (w : World) (r : RepL w (In w) (nils k) a) (hc : k ≤ c) (h : k ≤ 999) : Ans 9 #[.int .i64 17, lV a k c] w (it k) 0 := by
  refine unary_any 17 35 (by decide) (by decide) (fun W => by kernel_rfl) (fun v W => by kernel_rfl) (ls (nils k)) _ w (rep_ls (nils_len k).symm r (by rw [nils_len]; omega) hc) _ _ fun W hW => ?_
  rw [(Ones.nils k).ok, nils_len, decide_eq_true h, if_pos rfl]
  exact howMany_list 0 0 0 ⟨#[]⟩ a k c W (by omega)

theorem bin_ll2 (n m : Nat) (a a' : Option Addr) (c c' : Nat) (w : World) (r1 : RepL w (In w) (nils n) a) (r2 : RepL w (In w) (nils m) a') (hc : n ≤ c) (hc' : m ≤ c') (h : n + m ≤ 999) :
    Calls Try.prog 6 #[.int .i64 1, lV a n c, lV a' m c'] w fun e w' => ∃ a3 c3, e = .returned (.tuple #[lV a3 (n + m) c3, .int .i64 0]) ∧ n + m ≤ c3 ∧ RepL w' (In w') (nils (n + m)) a3 ∧ Ext w w' := by
  refine Calls.mono (bin_ll n m a a' c c' w r1 r2 hc hc' h) ?_
  rintro e w' ⟨r, rfl, hr, hw⟩
  rw [ls, Rep] at hr
  obtain ⟨a3, c3, rfl, hb, hl⟩ := hr
  rw [nils_len] at hb ⊢
  exact ⟨a3, c3, rfl, hb.bc, RepL.to (fun b hb => ⟨hb.2, rfl⟩) _ _ hl, hw⟩

set_option maxHeartbeats 4000000 in
theorem lists_kind (a b : Int) (w : World) (n m : Nat) (hn : (bits .and .i64 a 65535).tmod 1100 = (n : Int)) (hm : (bits .and .i64 b 65535).tmod 1100 = (m : Int)) (hn1 : n < 1100) (hm1 : m < 1100) (h : 999 < n ∨ 999 < m) :
    Calls Try.prog 4 #[.int .i64 a, .int .i64 b, .bool true] w fun e w' => e = .returned (.bool true) ∧ Ext w w' := by
  obtain ⟨Z, s, hs, mk, cv⟩ := zeros2 n hn1
  obtain ⟨Z', s', hs', mk', cv'⟩ := zeros2 m hm1
  go_enter Try.func4, Try.ntmps4
  go_upto_region 2 with fail
  refine two_abs (s := s) (s' := s') rfl (fun B hB => ?_) ?_
  · subst hB
    exact region2 _ w n m Z Z' s s' rfl rfl rfl mk mk' (hide cv) (hide cv')
  rintro g g' y0 y1 y2 y3 y4 y5 y6 y7 wx hT
  rename_i hK
  refine hK _ _ ?_
  clear hK mk mk' cv cv'
  simp only [chain10, List.setIfInBounds_toArray, List.set_cons_zero, List.set_cons_succ]
  have HT := hide hT
  clear hT
  go_upto_region 4 with fail
  refine four_abs (W0 := w) (g := g) (g' := g') (n := n) (m := m) (s' := s') rfl (fun B hB => ?_) ?_
  · subst hB
    exact region4 _ w wx g g' n m s s' rfl rfl rfl rfl rfl HT (makeV2 n hn1) (makeV2 m hm1)
  rintro h0 h0' v0 v1 v2 v3 v4 v5 wy hL
  rename_i hK
  refine hK _ _ ?_
  clear hK
  simp only [chain6, List.setIfInBounds_toArray, List.set_cons_zero, List.set_cons_succ]
  have r1 : RepL wy (In wy) (nils n) (pt h0) := nils_made (Array.getElem?_eq_some_iff.1 hL.made1).1 hL.made1
  have r2 : RepL wy (In wy) (nils m) (pt h0') := nils_made (Array.getElem?_eq_some_iff.1 hL.made2).1 hL.made2
  have BA := hide (bin_ll_kind n m (pt h0) (pt h0') n m wy r1 r2 (Nat.le_refl _) (Nat.le_refl _) (by omega) (by omega) h)
  have fX := Five.ofRow hL.row
  have fY := Five.ofRow hL.row'
  have x0 := fX.c0
  have x1 := fX.c1
  have x2 := fX.c2
  have x3 := fX.c3
  have x4 := fX.c4
  have z0 := fY.c0
  have z1 := fY.c1
  have z2 := fY.c2
  have z3 := fY.c3
  have z4 := fY.c4
  have V2 := hide hL.ext
  clear fX fY hL r1 r2
  go_wp2_with (first
    | (go_at_call 6; refine Calls.mono (unhide BA) ?_; rintro e w3 ⟨r3, rfl, hr3, hw3⟩; rw [nilP, Rep] at hr3; obtain ⟨a3, c3, rfl, -, -⟩ := hr3; have V3 := hide ((unhide V2).trans hw3); clear hw3)
    | (go_at_call 7; refine Calls.mono (oawake_any _) ?_; rintro e w9 ⟨rfl, hw9⟩; have V9 := hide (((unhide V3).trans (Ext.alloc _ _)).trans hw9); clear hw9))
  all_goals
    go_ret
    exact ⟨rfl, unhide V9⟩

set_option maxHeartbeats 4000000 in
theorem lists_big (a b : Int) (w : World) (n m : Nat) (hn : (bits .and .i64 a 65535).tmod 1100 = (n : Int)) (hm : (bits .and .i64 b 65535).tmod 1100 = (m : Int)) (hn1 : n < 1100) (hm1 : m < 1100) (h1 : n ≤ 999) (h2 : m ≤ 999) (h : ¬ n + m ≤ 999) :
    Calls Try.prog 4 #[.int .i64 a, .int .i64 b, .bool true] w fun e w' => e = .returned (.bool true) ∧ Ext w w' := by
  obtain ⟨Z, s, hs, mk, cv⟩ := zeros2 n hn1
  obtain ⟨Z', s', hs', mk', cv'⟩ := zeros2 m hm1
  go_enter Try.func4, Try.ntmps4
  go_upto_region 2 with fail
  refine two_abs (s := s) (s' := s') rfl (fun B hB => ?_) ?_
  · subst hB
    exact region2 _ w n m Z Z' s s' rfl rfl rfl mk mk' (hide cv) (hide cv')
  rintro g g' y0 y1 y2 y3 y4 y5 y6 y7 wx hT
  rename_i hK
  refine hK _ _ ?_
  clear hK mk mk' cv cv'
  simp only [chain10, List.setIfInBounds_toArray, List.set_cons_zero, List.set_cons_succ]
  have HT := hide hT
  clear hT
  go_upto_region 4 with fail
  refine four_abs (W0 := w) (g := g) (g' := g') (n := n) (m := m) (s' := s') rfl (fun B hB => ?_) ?_
  · subst hB
    exact region4 _ w wx g g' n m s s' rfl rfl rfl rfl rfl HT (makeV2 n hn1) (makeV2 m hm1)
  rintro h0 h0' v0 v1 v2 v3 v4 v5 wy hL
  rename_i hK
  refine hK _ _ ?_
  clear hK
  simp only [chain6, List.setIfInBounds_toArray, List.set_cons_zero, List.set_cons_succ]
  have r1 : RepL wy (In wy) (nils n) (pt h0) := nils_made (Array.getElem?_eq_some_iff.1 hL.made1).1 hL.made1
  have r2 : RepL wy (In wy) (nils m) (pt h0') := nils_made (Array.getElem?_eq_some_iff.1 hL.made2).1 hL.made2
  have BA := hide (bin_ll_big n m (pt h0) (pt h0') n m wy r1 r2 (Nat.le_refl _) (Nat.le_refl _) h1 h2 h)
  have fX := Five.ofRow hL.row
  have fY := Five.ofRow hL.row'
  have x0 := fX.c0
  have x1 := fX.c1
  have x2 := fX.c2
  have x3 := fX.c3
  have x4 := fX.c4
  have z0 := fY.c0
  have z1 := fY.c1
  have z2 := fY.c2
  have z3 := fY.c3
  have z4 := fY.c4
  have V2 := hide hL.ext
  clear fX fY hL r1 r2
  go_wp2_with (first
    | (go_at_call 6; refine Calls.mono (unhide BA) ?_; rintro e w3 ⟨r3, rfl, hr3, hw3⟩; rw [nilP, Rep] at hr3; obtain ⟨a3, c3, rfl, -, -⟩ := hr3; have V3 := hide ((unhide V2).trans hw3); clear hw3)
    | (go_at_call 7; refine Calls.mono (oawake_any _) ?_; rintro e w9 ⟨rfl, hw9⟩; have V9 := hide (((unhide V3).trans (Ext.alloc _ _)).trans hw9); clear hw9))
  all_goals
    go_ret
    exact ⟨rfl, unhide V9⟩

set_option maxHeartbeats 4000000 in
theorem lists_ok (a b : Int) (w : World) (n m : Nat) (hn : (bits .and .i64 a 65535).tmod 1100 = (n : Int)) (hm : (bits .and .i64 b 65535).tmod 1100 = (m : Int)) (hn1 : n < 1100) (hm1 : m < 1100) (h : n + m ≤ 999) :
    Calls Try.prog 4 #[.int .i64 a, .int .i64 b, .bool true] w fun e w' => e = .returned (.bool true) ∧ Ext w w' := by
  obtain ⟨Z, s, hs, mk, cv⟩ := zeros2 n hn1
  obtain ⟨Z', s', hs', mk', cv'⟩ := zeros2 m hm1
  go_enter Try.func4, Try.ntmps4
  go_upto_region 2 with fail
  refine two_abs (s := s) (s' := s') rfl (fun B hB => ?_) ?_
  · subst hB
    exact region2 _ w n m Z Z' s s' rfl rfl rfl mk mk' (hide cv) (hide cv')
  rintro g g' y0 y1 y2 y3 y4 y5 y6 y7 wx hT
  rename_i hK
  refine hK _ _ ?_
  clear hK mk mk' cv cv'
  simp only [chain10, List.setIfInBounds_toArray, List.set_cons_zero, List.set_cons_succ]
  have HT := hide hT
  clear hT
  go_upto_region 4 with fail
  refine four_abs (W0 := w) (g := g) (g' := g') (n := n) (m := m) (s' := s') rfl (fun B hB => ?_) ?_
  · subst hB
    exact region4 _ w wx g g' n m s s' rfl rfl rfl rfl rfl HT (makeV2 n hn1) (makeV2 m hm1)
  rintro h0 h0' v0 v1 v2 v3 v4 v5 wy hL
  rename_i hK
  refine hK _ _ ?_
  clear hK
  simp only [chain6, List.setIfInBounds_toArray, List.set_cons_zero, List.set_cons_succ]
  have r1 : RepL wy (In wy) (nils n) (pt h0) := nils_made (Array.getElem?_eq_some_iff.1 hL.made1).1 hL.made1
  have r2 : RepL wy (In wy) (nils m) (pt h0') := nils_made (Array.getElem?_eq_some_iff.1 hL.made2).1 hL.made2
  have BA := hide (bin_ll2 n m (pt h0) (pt h0') n m wy r1 r2 (Nat.le_refl _) (Nat.le_refl _) h)
  have fX := Five.ofRow hL.row
  have fY := Five.ofRow hL.row'
  have x0 := fX.c0
  have x1 := fX.c1
  have x2 := fX.c2
  have x3 := fX.c3
  have x4 := fX.c4
  have z0 := fY.c0
  have z1 := fY.c1
  have z2 := fY.c2
  have z3 := fY.c3
  have z4 := fY.c4
  have V2 := hide hL.ext
  clear fX fY hL r1 r2
  go_wp2_with (first
    | (go_at_call 6; refine Calls.mono (unhide BA) ?_; rintro e w3 ⟨a3, c3, rfl, hc3, hl3, hw3⟩; have V3 := hide ((unhide V2).trans hw3); have UL := hide (fun W (e : Ext w3 W) => un_lenL (n + m) a3 c3 W (hl3.ext e) hc3 h); clear hw3 hl3 hc3)
    | (go_at_call 9; refine Calls.mono (unhide UL _ (Ext.alloc _ _)) ?_; rintro e w4 ⟨r4, rfl, hr4, hw4⟩; rw [it, Rep] at hr4; obtain ⟨a4, c4, rfl, -, -⟩ := hr4; have V4 := hide ((unhide V3).trans ((Ext.alloc _ _).trans hw4)); clear hw4)
    | (go_at_call 7; refine Calls.mono (oawake_any _) ?_; rintro e w9 ⟨rfl, hw9⟩; have V9 := hide (((unhide V4).trans (Ext.alloc _ _)).trans hw9); clear hw9))
  all_goals
    go_ret
    exact ⟨rfl, unhide V9⟩

theorem osizes_walk (a b : Int) (l : Bool) (w : World) :
    Calls Try.prog 4 #[.int .i64 a, .int .i64 b, .bool l] w fun e w' => e = .returned (.bool true) ∧ Ext w w' := by
  obtain ⟨n, hn, hn1⟩ := mask16 a 1100 (by decide)
  obtain ⟨m, hm, hm1⟩ := mask16 b 1100 (by decide)
  by_cases h : 999 < n ∨ 999 < m
  · cases l with
    | false => exact texts_kind a b w n m hn hm hn1 hm1 h
    | true => exact lists_kind a b w n m hn hm hn1 hm1 h
  · by_cases h2 : n + m ≤ 999
    · cases l with
      | false => exact texts_ok a b w n m hn hm hn1 hm1 h2
      | true => exact lists_ok a b w n m hn hm hn1 hm1 h2
    · cases l with
      | false => exact texts_big a b w n m hn hm hn1 hm1 (by omega) (by omega) h2
      | true => exact lists_big a b w n m hn hm hn1 hm1 (by omega) (by omega) h2

end Go.Proofs.Ytbkncdjmodeabaa
