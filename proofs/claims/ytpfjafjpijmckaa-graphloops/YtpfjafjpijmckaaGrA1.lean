/- climbOf makes its rows in whatever order. -/
import Derived.Test.YtpfjafjpijmckaaGrAl
set_option linter.unusedSimpArgs false
set_option linter.unusedVariables false
set_option maxRecDepth 10000
namespace Go.Proofs.Ytpfjafjpijmckaa
open Go.RowKit

def PhClm (B : Nat) (ga : Option Addr) (n gc : Nat) (ma : Option Addr) (m mc : Nat) (PL : List (Option Nat)) : Nat → Value → Prop
  | 0, v => v = .pointer (some ⟨B, 0, none⟩)
  | 1, v => v = .pointer (some ⟨B, 0, none⟩)
  | 2, v => v = .pointer (some ⟨B, 0, none⟩)
  | 3, v => v = .slice ga n gc
  | 4, v => v = .pointer (some ⟨B, 0, none⟩)
  | 5, v => v = .pointer (some ⟨B, 0, none⟩)
  | 6, v => v = .pointer (some ⟨B, 4, none⟩)
  | 7, v => v = .slice ma m mc
  | 9, v => v = .int .i64 (m : Int)
  | 11, v => v = .int .i64 (m : Int)
  | 13, v => v = .int .i64 (m : Int)
  | _, _ => True
def OkClm (B : Nat) (ga : Option Addr) (n gc : Nat) (ma : Option Addr) (m mc : Nat) (PL : List (Option Nat)) : Nat → Nat → Nat → Nat → World → Prop
  | 8, b, lo, hi, w => Row w b 3 (os PL)
  | 10, b, lo, hi, w => Row w b 3 (ns (List.replicate m 0))
  | 12, b, lo, hi, w => Row w b 3 (ns (List.replicate m 0))
  | 14, b, lo, hi, w => Row w b 3 (ns (List.replicate m 0))
  | _, _, _, _, _ => True
def LnClm (B : Nat) (ga : Option Addr) (n gc : Nat) (ma : Option Addr) (m mc : Nat) (PL : List (Option Nat)) : Nat → Nat
  | 8 => n
  | 10 => m
  | 12 => m
  | 14 => m
  | _ => 0
def AlClm : Nat → Bool
  | 8 => true
  | 10 => true
  | 12 => true
  | 14 => true
  | _ => false
def RClm (B : Nat) (ga : Option Addr) (n gc : Nat) (ma : Option Addr) (m mc : Nat) (PL : List (Option Nat)) : RSp := ⟨14, 90, 6, 15, AlClm, PhClm B ga n gc ma m mc PL, OkClm B ga n gc ma m mc PL, LnClm B ga n gc ma m mc PL, fun f => #[f 8, f 10, f 12, f 14, .slice none 0 0], 53⟩
theorem alClm_cases {i : Nat} (h : AlClm i = true) : i = 8 ∨ i = 10 ∨ i = 12 ∨ i = 14 := by
  unfold AlClm at h
  split at h
  all_goals first | omega | cases h
theorem GClm (B : Nat) (ga : Option Addr) (n gc : Nat) (ma : Option Addr) (m mc : Nat) (PL : List (Option Nat)) : RGood (RClm B ga n gc ma m mc PL) := by
  refine ⟨by show 6 < 14; omega, by show 14 + 15 + 2 ≤ 90; omega, ?_, ?_⟩
  · intro i b lo hi w w' he h1 h2 h3 h4
    show OkClm B ga n gc ma m mc PL i b lo hi w'
    have h4 : OkClm B ga n gc ma m mc PL i b lo hi w := h4
    unfold OkClm at h4 ⊢
    split
    all_goals first | exact trivial | (simp only at h4; exact Row.on h4 he)
  · intro f g h
    have h : ∀ i, i < 15 → AlClm i = true → f i = g i := h
    show #[f 8, f 10, f 12, f 14, .slice none 0 0] = #[g 8, g 10, g 12, g 14, .slice none 0 0]
    rw [h 8 (by omega) rfl, h 10 (by omega) rfl, h 12 (by omega) rfl, h 14 (by omega) rfl]

theorem entClmplaces (v0 v1 : Value) (W : World) : (callFunc 43 #[v0, v1]).run Try.prog W = .ok (.enter 43 #[v0, v1]) W := by kernel_rfl

set_option maxHeartbeats 8000000 in
theorem regionClm (A : Array Value) (W : World) (B : Nat) (ga : Option Addr) (n gc : Nat) (ma : Option Addr) (m mc : Nat) (PL : List (Option Nat)) (hs : A.size = 90) (t0 : A[0]? = some (.pointer (some ⟨B, 0, none⟩))) (t5 : A[5]? = some (.int .i64 (m : Int)))
    (q0 : W.cell? ⟨B, 0, none⟩ = some (.slice ga n gc)) (q4 : W.cell? ⟨B, 4, none⟩ = some (.slice ma m mc))
    (m2 : ∀ w : World, (Instr.makeSlice 22 (.int .i64 (m : Int)) (.int .i64 (m : Int))).run Try.prog w = .ok (.slice (some ⟨w.heap.size, 0, none⟩) m m) (w.alloc (nwN m)))
    (HPl : Hd (∀ w : World, Ext W w → Calls Try.prog 43 #[.slice ga n gc, .slice ma m mc] w fun e w' => ∃ b, e = .returned (slV b n) ∧ Ext w w' ∧ w.heap.size ≤ b ∧ b < w'.heap.size ∧ Row w' b 3 (os PL))) :
    Code.wp Try.prog ((Try.f28.body.bind (regionAt 2)).getD .skip) (RPost (RClm B ga n gc ma m mc PL) A W) ⟨A, []⟩ W := by
  conv => arg 2; whnf
  refine wp_region_any (by kernel_rfl) (wpAny_inv (fun l a w => a.defers = [] ∧ RInv (RClm B ga n gc ma m mc PL) A W l a.tmps w) ?_ ?_ _ _ _ _ ?_ ?_)
  · rintro l ⟨T, d⟩ w ⟨hd, hI⟩ i hi
    obtain rfl : d = [] := hd
    have hI : RInv (RClm B ga n gc ma m mc PL) A W l T w := hI
    have hnd := not_ltA (ready_open hi)
    have hr := hi
    unfold Region.ready at hr
    rw [List.mem_filter] at hr
    obtain ⟨hr1, hr2⟩ := hr
    have hN : i < 18 := by simpa using hr1
    clear hr1 hi
    have hTs : T.size = 90 := hI.len
    have G := GClm B ga n gc ma m mc PL
    have c0 := hI.ext.cell q0
    have c4 := hI.ext.cell q4
    have u0 : T[0] = .pointer (some ⟨B, 0, none⟩) := atA (T := T) (i := 0) ((hI.keep 0 (Or.inl (by show 0 < 14; omega)) (by show 0 ≠ 6; omega)).trans t0) (by omega)
    have u5 : T[5] = .int .i64 (m : Int) := atA (T := T) (i := 5) ((hI.keep 5 (Or.inl (by show 5 < 14; omega)) (by show 5 ≠ 6; omega)).trans t5) (by omega)
    rcases (show i = 0 ∨ i = 1 ∨ i = 2 ∨ i = 3 ∨ i = 4 ∨ i = 5 ∨ i = 6 ∨ i = 7 ∨ i = 8 ∨ i = 9 ∨ i = 10 ∨ i = 11 ∨ i = 12 ∨ i = 13 ∨ i = 14 ∨ i = 15 ∨ i = 16 ∨ i = 17 by omega) with rfl | rfl | rfl | rfl | rfl | rfl | rfl | rfl | rfl | rfl | rfl | rfl | rfl | rfl | rfl | rfl | rfl | rfl
    · simp [Region.binds] at hr2
      refine wpOp_want rfl (by simp [Region.wanted, yielded, hTs]) ?_
      clear hr2
      go_simp
      exact hI.const G 0 (by show 0 < 15; omega) rfl _ rfl
    · simp [Region.binds] at hr2
      obtain ⟨x0, y0, z0⟩ := hI.cs 0 (by show 0 < 15; omega) rfl (show ltA l 0 from (by first | exact hr2.2 | exact hr2.2.1 | exact hr2.2.2 | exact hr2.2.2.1 | exact hr2.2.2.2 | exact hr2.2.2.2.1 | exact hr2.2.2.2.2 | exact hr2.1.1 | exact hr2.1.2 | simp_all))
      have u14 : T[14] = .pointer (some ⟨B, 0, none⟩) := by rw [← (show x0 = .pointer (some ⟨B, 0, none⟩) from z0)]; exact atA (T := T) (i := 14) y0 (by omega)
      refine wpOp_want rfl (by simp [Region.wanted, yielded, hTs]) ?_
      clear hr2
      go_simp
      exact hI.const G 1 (by show 1 < 15; omega) rfl _ rfl
    · simp [Region.binds] at hr2
      obtain ⟨x1, y1, z1⟩ := hI.cs 1 (by show 1 < 15; omega) rfl (show ltA l 1 from (by first | exact hr2.2 | exact hr2.2.1 | exact hr2.2.2 | exact hr2.2.2.1 | exact hr2.2.2.2 | exact hr2.2.2.2.1 | exact hr2.2.2.2.2 | exact hr2.1.1 | exact hr2.1.2 | simp_all))
      have u15 : T[15] = .pointer (some ⟨B, 0, none⟩) := by rw [← (show x1 = .pointer (some ⟨B, 0, none⟩) from z1)]; exact atA (T := T) (i := 15) y1 (by omega)
      refine wpOp_want rfl (by simp [Region.wanted, yielded, hTs]) ?_
      clear hr2
      go_simp
      exact hI.const G 2 (by show 2 < 15; omega) rfl _ rfl
    · simp [Region.binds] at hr2
      obtain ⟨x2, y2, z2⟩ := hI.cs 2 (by show 2 < 15; omega) rfl (show ltA l 2 from (by first | exact hr2.2 | exact hr2.2.1 | exact hr2.2.2 | exact hr2.2.2.1 | exact hr2.2.2.2 | exact hr2.2.2.2.1 | exact hr2.2.2.2.2 | exact hr2.1.1 | exact hr2.1.2 | simp_all))
      have u16 : T[16] = .pointer (some ⟨B, 0, none⟩) := by rw [← (show x2 = .pointer (some ⟨B, 0, none⟩) from z2)]; exact atA (T := T) (i := 16) y2 (by omega)
      refine wpOp_want rfl (by simp [Region.wanted, yielded, hTs]) ?_
      clear hr2
      go_simp
      exact hI.const G 3 (by show 3 < 15; omega) rfl _ rfl
    · simp [Region.binds] at hr2
      refine wpOp_want rfl (by simp [Region.wanted, yielded, hTs]) ?_
      clear hr2
      go_simp
      exact hI.const G 4 (by show 4 < 15; omega) rfl _ rfl
    · simp [Region.binds] at hr2
      obtain ⟨x4, y4, z4⟩ := hI.cs 4 (by show 4 < 15; omega) rfl (show ltA l 4 from (by first | exact hr2.2 | exact hr2.2.1 | exact hr2.2.2 | exact hr2.2.2.1 | exact hr2.2.2.2 | exact hr2.2.2.2.1 | exact hr2.2.2.2.2 | exact hr2.1.1 | exact hr2.1.2 | simp_all))
      have u18 : T[18] = .pointer (some ⟨B, 0, none⟩) := by rw [← (show x4 = .pointer (some ⟨B, 0, none⟩) from z4)]; exact atA (T := T) (i := 18) y4 (by omega)
      refine wpOp_want rfl (by simp [Region.wanted, yielded, hTs]) ?_
      clear hr2
      go_simp
      exact hI.const G 5 (by show 5 < 15; omega) rfl _ rfl
    · simp [Region.binds] at hr2
      obtain ⟨x5, y5, z5⟩ := hI.cs 5 (by show 5 < 15; omega) rfl (show ltA l 5 from (by first | exact hr2.2 | exact hr2.2.1 | exact hr2.2.2 | exact hr2.2.2.1 | exact hr2.2.2.2 | exact hr2.2.2.2.1 | exact hr2.2.2.2.2 | exact hr2.1.1 | exact hr2.1.2 | simp_all))
      have u19 : T[19] = .pointer (some ⟨B, 0, none⟩) := by rw [← (show x5 = .pointer (some ⟨B, 0, none⟩) from z5)]; exact atA (T := T) (i := 19) y5 (by omega)
      refine wpOp_want rfl (by simp [Region.wanted, yielded, hTs]) ?_
      clear hr2
      go_simp
      exact hI.const G 6 (by show 6 < 15; omega) rfl _ rfl
    · simp [Region.binds] at hr2
      obtain ⟨x6, y6, z6⟩ := hI.cs 6 (by show 6 < 15; omega) rfl (show ltA l 6 from (by first | exact hr2.2 | exact hr2.2.1 | exact hr2.2.2 | exact hr2.2.2.1 | exact hr2.2.2.2 | exact hr2.2.2.2.1 | exact hr2.2.2.2.2 | exact hr2.1.1 | exact hr2.1.2 | simp_all))
      have u20 : T[20] = .pointer (some ⟨B, 4, none⟩) := by rw [← (show x6 = .pointer (some ⟨B, 4, none⟩) from z6)]; exact atA (T := T) (i := 20) y6 (by omega)
      refine wpOp_want rfl (by simp [Region.wanted, yielded, hTs]) ?_
      clear hr2
      go_simp
      exact hI.const G 7 (by show 7 < 15; omega) rfl _ rfl
    · simp [Region.binds] at hr2
      obtain ⟨x3, y3, z3⟩ := hI.cs 3 (by show 3 < 15; omega) rfl (show ltA l 3 from (by first | exact hr2.2 | exact hr2.2.1 | exact hr2.2.2 | exact hr2.2.2.1 | exact hr2.2.2.2 | exact hr2.2.2.2.1 | exact hr2.2.2.2.2 | exact hr2.1.1 | exact hr2.1.2 | simp_all))
      have u17 : T[17] = .slice ga n gc := by rw [← (show x3 = .slice ga n gc from z3)]; exact atA (T := T) (i := 17) y3 (by omega)
      obtain ⟨x7, y7, z7⟩ := hI.cs 7 (by show 7 < 15; omega) rfl (show ltA l 7 from (by first | exact hr2.2 | exact hr2.2.1 | exact hr2.2.2 | exact hr2.2.2.1 | exact hr2.2.2.2 | exact hr2.2.2.2.1 | exact hr2.2.2.2.2 | exact hr2.1.1 | exact hr2.1.2 | simp_all))
      have u21 : T[21] = .slice ma m mc := by rw [← (show x7 = .slice ma m mc from z7)]; exact atA (T := T) (i := 21) y7 (by omega)
      refine wpOp_want rfl (by simp [Region.wanted, yielded, hTs]) ?_
      clear hr2
      refine wp_call_xs 43 #[.tmp 17, .tmp 21] #[23, 22] rfl #[.slice ga n gc, .slice ma m mc] (by simp [Act.eval, hTs, u17, u21]) (entClmplaces _ _ _) (Calls.mono (unhide HPl w hI.ext) ?_)
      rintro e w1 ⟨b, rfl, hx, hb, hb2, hok⟩
      exact ⟨_, rfl, rfl, hI.alloc G 8 (by show 8 < 15; omega) rfl hnd b w.heap.size w1.heap.size w1 hx (Nat.le_refl _) hb hb2 (Nat.le_refl _) hok⟩
    · simp [Region.binds] at hr2
      refine wpOp_want rfl (by simp [Region.wanted, yielded, hTs]) ?_
      clear hr2
      go_simp
      exact hI.const G 9 (by show 9 < 15; omega) rfl _ rfl
    · simp [Region.binds] at hr2
      obtain ⟨x9, y9, z9⟩ := hI.cs 9 (by show 9 < 15; omega) rfl (show ltA l 9 from (by first | exact hr2.2 | exact hr2.2.1 | exact hr2.2.2 | exact hr2.2.2.1 | exact hr2.2.2.2 | exact hr2.2.2.2.1 | exact hr2.2.2.2.2 | exact hr2.1.1 | exact hr2.1.2 | simp_all))
      have u23 : T[23] = .int .i64 (m : Int) := by rw [← (show x9 = .int .i64 (m : Int) from z9)]; exact atA (T := T) (i := 23) y9 (by omega)
      refine wpOp_want rfl (by simp [Region.wanted, yielded, hTs]) ?_
      clear hr2
      go_simp
      exact hI.alloc G 10 (by show 10 < 15; omega) rfl hnd w.heap.size w.heap.size (w.heap.size + 1) _ (Ext.alloc _ _) (Nat.le_refl _) (Nat.le_refl _) (by omega) (by rw [sz1]; omega) (rowN w _)
    · simp [Region.binds] at hr2
      refine wpOp_want rfl (by simp [Region.wanted, yielded, hTs]) ?_
      clear hr2
      go_simp
      exact hI.const G 11 (by show 11 < 15; omega) rfl _ rfl
    · simp [Region.binds] at hr2
      obtain ⟨x11, y11, z11⟩ := hI.cs 11 (by show 11 < 15; omega) rfl (show ltA l 11 from (by first | exact hr2.2 | exact hr2.2.1 | exact hr2.2.2 | exact hr2.2.2.1 | exact hr2.2.2.2 | exact hr2.2.2.2.1 | exact hr2.2.2.2.2 | exact hr2.1.1 | exact hr2.1.2 | simp_all))
      have u25 : T[25] = .int .i64 (m : Int) := by rw [← (show x11 = .int .i64 (m : Int) from z11)]; exact atA (T := T) (i := 25) y11 (by omega)
      refine wpOp_want rfl (by simp [Region.wanted, yielded, hTs]) ?_
      clear hr2
      go_simp
      exact hI.alloc G 12 (by show 12 < 15; omega) rfl hnd w.heap.size w.heap.size (w.heap.size + 1) _ (Ext.alloc _ _) (Nat.le_refl _) (Nat.le_refl _) (by omega) (by rw [sz1]; omega) (rowN w _)
    · simp [Region.binds] at hr2
      refine wpOp_want rfl (by simp [Region.wanted, yielded, hTs]) ?_
      clear hr2
      go_simp
      exact hI.const G 13 (by show 13 < 15; omega) rfl _ rfl
    · simp [Region.binds] at hr2
      obtain ⟨x13, y13, z13⟩ := hI.cs 13 (by show 13 < 15; omega) rfl (show ltA l 13 from (by first | exact hr2.2 | exact hr2.2.1 | exact hr2.2.2 | exact hr2.2.2.1 | exact hr2.2.2.2 | exact hr2.2.2.2.1 | exact hr2.2.2.2.2 | exact hr2.1.1 | exact hr2.1.2 | simp_all))
      have u27 : T[27] = .int .i64 (m : Int) := by rw [← (show x13 = .int .i64 (m : Int) from z13)]; exact atA (T := T) (i := 27) y13 (by omega)
      refine wpOp_want rfl (by simp [Region.wanted, yielded, hTs]) ?_
      clear hr2
      go_simp
      exact hI.alloc G 14 (by show 14 < 15; omega) rfl hnd w.heap.size w.heap.size (w.heap.size + 1) _ (Ext.alloc _ _) (Nat.le_refl _) (Nat.le_refl _) (by omega) (by rw [sz1]; omega) (rowN w _)
    · simp [Region.binds] at hr2
      have hal : ∀ i, i < 15 → AlClm i = true → ltA l i := by
        intro j hj ha
        rcases alClm_cases ha with rfl | rfl | rfl | rfl
        all_goals first | exact hr2.2.1 | exact hr2.2.2.1 | exact hr2.2.2.2.1 | exact hr2.2.2.2.2.1 | exact hr2.2.2.2.2.2.1 | exact hr2.2 | exact hr2.2.2 | exact hr2.2.2.2 | exact hr2.2.2.2.2 | exact hr2.2.2.2.2.2 | exact hr2.2.2.2.2.2.2 | simp_all
      obtain ⟨bl0, lo0, hh0, C0, E0⟩ := hI.ex
      have hb0 : ∀ i, i < 15 → AlClm i = true → T[14 + i]? = some (slV (bl0 i) (LnClm B ga n gc ma m mc PL i)) := fun i hi ha => (E0.al i hi ha (hal i hi ha)).1
      have u22 : T[22] = slV (bl0 8) (n) := atA (T := T) (i := 22) (hb0 8 (by omega) rfl) (by omega)
      have u24 : T[24] = slV (bl0 10) (m) := atA (T := T) (i := 24) (hb0 10 (by omega) rfl) (by omega)
      have u26 : T[26] = slV (bl0 12) (m) := atA (T := T) (i := 26) (hb0 12 (by omega) rfl) (by omega)
      have u28 : T[28] = slV (bl0 14) (m) := atA (T := T) (i := 28) (hb0 14 (by omega) rfl) (by omega)
      refine wpOp_want rfl (by simp [Region.wanted, yielded, hTs]) ?_
      clear hr2 E0
      go_simp
      refine hI.build G hal hnd _ (fun bl hb => ?_)
      have hb : ∀ i, i < 15 → AlClm i = true → T[14 + i]? = some (slV (bl i) (LnClm B ga n gc ma m mc PL i)) := hb
      have e8 : slV (bl0 8) (n) = slV (bl 8) (n) := by rw [← u22]; exact atA (T := T) (i := 22) (hb 8 (by omega) rfl) (by omega)
      have e10 : slV (bl0 10) (m) = slV (bl 10) (m) := by rw [← u24]; exact atA (T := T) (i := 24) (hb 10 (by omega) rfl) (by omega)
      have e12 : slV (bl0 12) (m) = slV (bl 12) (m) := by rw [← u26]; exact atA (T := T) (i := 26) (hb 12 (by omega) rfl) (by omega)
      have e14 : slV (bl0 14) (m) = slV (bl 14) (m) := by rw [← u28]; exact atA (T := T) (i := 28) (hb 14 (by omega) rfl) (by omega)
      rw [e8, e10, e12, e14]
      rfl
    · simp [Region.binds] at hr2
      obtain ⟨vs, hvs, ⟨bl, hbl⟩, hI'⟩ := hI.box G (show ltA l 15 from (by first | exact hr2.2 | exact hr2.2.1 | exact hr2.2.2 | exact hr2.2.2.1 | exact hr2.2.2.2 | exact hr2.2.2.2.1 | exact hr2.2.2.2.2 | exact hr2.1.1 | exact hr2.1.2 | simp_all)) hnd
      have hbl : vs = #[(fun i => slV (bl i) (LnClm B ga n gc ma m mc PL i)) 8, (fun i => slV (bl i) (LnClm B ga n gc ma m mc PL i)) 10, (fun i => slV (bl i) (LnClm B ga n gc ma m mc PL i)) 12, (fun i => slV (bl i) (LnClm B ga n gc ma m mc PL i)) 14, .slice none 0 0] := hbl
      have e : T[29] = .agg vs := atA (T := T) (i := 29) hvs (by omega)
      subst hbl
      refine wpOp_want rfl (by simp [Region.wanted, yielded, hTs]) ?_
      clear hr2
      go_simp
      exact hI'
    · simp [Region.binds] at hr2
      obtain ⟨C, hC, hI'⟩ := hI.last G (show ltA l 16 from (by first | exact hr2.2 | exact hr2.2.1 | exact hr2.2.2 | exact hr2.2.2.1 | exact hr2.2.2.2 | exact hr2.2.2.2.1 | exact hr2.2.2.2.2 | exact hr2.1.1 | exact hr2.1.2 | simp_all))
      have e : T[30] = ptV C := atA (T := T) (i := 30) hC (by omega)
      refine wpOp_want rfl (by simp [Region.wanted, yielded, hTs]) ?_
      clear hr2
      go_simp
      exact hI'
  · rintro l ⟨T, d⟩ w ⟨hd, hI⟩ hz
    have hI : RInv (RClm B ga n gc ma m mc PL) A W l T w := hI
    have up : ∀ i, i < 18 → (ltA l i → False) → l[i]?.getD true = false := fun i hi hc => by
      have hil : i < l.size := by rw [hI.sz]; exact hi
      have e : l[i]? = some l[i] := Array.getElem?_eq_getElem hil
      rw [e]
      cases hb : l[i] with
      | false => rfl
      | true => exact absurd (by unfold ltA; rw [e, hb]; rfl) hc
    have r0 : l[0]?.getD false = true := Classical.byContradiction fun hc => by
      have hb := up 0 (by omega) hc
      refine absurd (?_ : 0 ∈ Region.ready _ _ l) (by rw [hz]; simp)
      unfold Region.ready
      rw [List.mem_filter]
      exact ⟨by simp, by simp [Region.binds, hb]⟩
    have r1 : l[1]?.getD false = true := Classical.byContradiction fun hc => by
      have hb := up 1 (by omega) hc
      refine absurd (?_ : 1 ∈ Region.ready _ _ l) (by rw [hz]; simp)
      unfold Region.ready
      rw [List.mem_filter]
      exact ⟨by simp, by simp [Region.binds, hb, r0]⟩
    have r2 : l[2]?.getD false = true := Classical.byContradiction fun hc => by
      have hb := up 2 (by omega) hc
      refine absurd (?_ : 2 ∈ Region.ready _ _ l) (by rw [hz]; simp)
      unfold Region.ready
      rw [List.mem_filter]
      exact ⟨by simp, by simp [Region.binds, hb, r0, r1]⟩
    have r3 : l[3]?.getD false = true := Classical.byContradiction fun hc => by
      have hb := up 3 (by omega) hc
      refine absurd (?_ : 3 ∈ Region.ready _ _ l) (by rw [hz]; simp)
      unfold Region.ready
      rw [List.mem_filter]
      exact ⟨by simp, by simp [Region.binds, hb, r0, r1, r2]⟩
    have r4 : l[4]?.getD false = true := Classical.byContradiction fun hc => by
      have hb := up 4 (by omega) hc
      refine absurd (?_ : 4 ∈ Region.ready _ _ l) (by rw [hz]; simp)
      unfold Region.ready
      rw [List.mem_filter]
      exact ⟨by simp, by simp [Region.binds, hb, r0, r1, r2, r3]⟩
    have r5 : l[5]?.getD false = true := Classical.byContradiction fun hc => by
      have hb := up 5 (by omega) hc
      refine absurd (?_ : 5 ∈ Region.ready _ _ l) (by rw [hz]; simp)
      unfold Region.ready
      rw [List.mem_filter]
      exact ⟨by simp, by simp [Region.binds, hb, r0, r1, r2, r3, r4]⟩
    have r6 : l[6]?.getD false = true := Classical.byContradiction fun hc => by
      have hb := up 6 (by omega) hc
      refine absurd (?_ : 6 ∈ Region.ready _ _ l) (by rw [hz]; simp)
      unfold Region.ready
      rw [List.mem_filter]
      exact ⟨by simp, by simp [Region.binds, hb, r0, r1, r2, r3, r4, r5]⟩
    have r7 : l[7]?.getD false = true := Classical.byContradiction fun hc => by
      have hb := up 7 (by omega) hc
      refine absurd (?_ : 7 ∈ Region.ready _ _ l) (by rw [hz]; simp)
      unfold Region.ready
      rw [List.mem_filter]
      exact ⟨by simp, by simp [Region.binds, hb, r0, r1, r2, r3, r4, r5, r6]⟩
    have r8 : l[8]?.getD false = true := Classical.byContradiction fun hc => by
      have hb := up 8 (by omega) hc
      refine absurd (?_ : 8 ∈ Region.ready _ _ l) (by rw [hz]; simp)
      unfold Region.ready
      rw [List.mem_filter]
      exact ⟨by simp, by simp [Region.binds, hb, r0, r1, r2, r3, r4, r5, r6, r7]⟩
    have r9 : l[9]?.getD false = true := Classical.byContradiction fun hc => by
      have hb := up 9 (by omega) hc
      refine absurd (?_ : 9 ∈ Region.ready _ _ l) (by rw [hz]; simp)
      unfold Region.ready
      rw [List.mem_filter]
      exact ⟨by simp, by simp [Region.binds, hb, r0, r1, r2, r3, r4, r5, r6, r7, r8]⟩
    have r10 : l[10]?.getD false = true := Classical.byContradiction fun hc => by
      have hb := up 10 (by omega) hc
      refine absurd (?_ : 10 ∈ Region.ready _ _ l) (by rw [hz]; simp)
      unfold Region.ready
      rw [List.mem_filter]
      exact ⟨by simp, by simp [Region.binds, hb, r0, r1, r2, r3, r4, r5, r6, r7, r8, r9]⟩
    have r11 : l[11]?.getD false = true := Classical.byContradiction fun hc => by
      have hb := up 11 (by omega) hc
      refine absurd (?_ : 11 ∈ Region.ready _ _ l) (by rw [hz]; simp)
      unfold Region.ready
      rw [List.mem_filter]
      exact ⟨by simp, by simp [Region.binds, hb, r0, r1, r2, r3, r4, r5, r6, r7, r8, r9, r10]⟩
    have r12 : l[12]?.getD false = true := Classical.byContradiction fun hc => by
      have hb := up 12 (by omega) hc
      refine absurd (?_ : 12 ∈ Region.ready _ _ l) (by rw [hz]; simp)
      unfold Region.ready
      rw [List.mem_filter]
      exact ⟨by simp, by simp [Region.binds, hb, r0, r1, r2, r3, r4, r5, r6, r7, r8, r9, r10, r11]⟩
    have r13 : l[13]?.getD false = true := Classical.byContradiction fun hc => by
      have hb := up 13 (by omega) hc
      refine absurd (?_ : 13 ∈ Region.ready _ _ l) (by rw [hz]; simp)
      unfold Region.ready
      rw [List.mem_filter]
      exact ⟨by simp, by simp [Region.binds, hb, r0, r1, r2, r3, r4, r5, r6, r7, r8, r9, r10, r11, r12]⟩
    have r14 : l[14]?.getD false = true := Classical.byContradiction fun hc => by
      have hb := up 14 (by omega) hc
      refine absurd (?_ : 14 ∈ Region.ready _ _ l) (by rw [hz]; simp)
      unfold Region.ready
      rw [List.mem_filter]
      exact ⟨by simp, by simp [Region.binds, hb, r0, r1, r2, r3, r4, r5, r6, r7, r8, r9, r10, r11, r12, r13]⟩
    have r15 : l[15]?.getD false = true := Classical.byContradiction fun hc => by
      have hb := up 15 (by omega) hc
      refine absurd (?_ : 15 ∈ Region.ready _ _ l) (by rw [hz]; simp)
      unfold Region.ready
      rw [List.mem_filter]
      exact ⟨by simp, by simp [Region.binds, hb, r0, r1, r2, r3, r4, r5, r6, r7, r8, r9, r10, r11, r12, r13, r14]⟩
    have r16 : l[16]?.getD false = true := Classical.byContradiction fun hc => by
      have hb := up 16 (by omega) hc
      refine absurd (?_ : 16 ∈ Region.ready _ _ l) (by rw [hz]; simp)
      unfold Region.ready
      rw [List.mem_filter]
      exact ⟨by simp, by simp [Region.binds, hb, r0, r1, r2, r3, r4, r5, r6, r7, r8, r9, r10, r11, r12, r13, r14, r15]⟩
    have r17 : l[17]?.getD false = true := Classical.byContradiction fun hc => by
      have hb := up 17 (by omega) hc
      refine absurd (?_ : 17 ∈ Region.ready _ _ l) (by rw [hz]; simp)
      unfold Region.ready
      rw [List.mem_filter]
      exact ⟨by simp, by simp [Region.binds, hb, r0, r1, r2, r3, r4, r5, r6, r7, r8, r9, r10, r11, r12, r13, r14, r15, r16]⟩
    refine ⟨hd, l, hI, fun i hi => ?_⟩
    have hi : i < 18 := hi
    rcases (show i = 0 ∨ i = 1 ∨ i = 2 ∨ i = 3 ∨ i = 4 ∨ i = 5 ∨ i = 6 ∨ i = 7 ∨ i = 8 ∨ i = 9 ∨ i = 10 ∨ i = 11 ∨ i = 12 ∨ i = 13 ∨ i = 14 ∨ i = 15 ∨ i = 16 ∨ i = 17 by omega) with rfl | rfl | rfl | rfl | rfl | rfl | rfl | rfl | rfl | rfl | rfl | rfl | rfl | rfl | rfl | rfl | rfl | rfl
    · exact r0
    · exact r1
    · exact r2
    · exact r3
    · exact r4
    · exact r5
    · exact r6
    · exact r7
    · exact r8
    · exact r9
    · exact r10
    · exact r11
    · exact r12
    · exact r13
    · exact r14
    · exact r15
    · exact r16
    · exact r17
  · exact Nat.le_refl 18
  · exact ⟨rfl, RInv.start hs _ (Ext.drew (Ext.refl _))⟩

end Go.Proofs.Ytpfjafjpijmckaa
