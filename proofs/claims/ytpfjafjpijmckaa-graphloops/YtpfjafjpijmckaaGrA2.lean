/- nestOf makes its rows in whatever order. -/
import Derived.Test.YtpfjafjpijmckaaGrAl
set_option linter.unusedSimpArgs false
set_option linter.unusedVariables false
set_option maxRecDepth 10000
namespace Go.Proofs.Ytpfjafjpijmckaa
open Go.RowKit

def PhNst (B : Nat) (ga : Option Addr) (n gc : Nat) (ma : Option Addr) (m mc : Nat) (la : Option Addr) (k lc : Nat) (PS : List (List Nat)) (PF PG : List (Option Nat)) : Nat → Value → Prop
  | 0, v => v = .slice ga n gc
  | 2, v => v = .slice ga n gc
  | 3, v => v = .pointer (some ⟨B, 0, none⟩)
  | 4, v => v = .pointer (some ⟨B, 0, none⟩)
  | 5, v => v = .pointer (some ⟨B, 4, none⟩)
  | 6, v => v = .slice ma m mc
  | 8, v => v = .slice ga n gc
  | 9, v => v = .pointer (some ⟨B, 0, none⟩)
  | 10, v => v = .pointer (some ⟨B, 0, none⟩)
  | 11, v => v = .pointer (some ⟨B, 5, none⟩)
  | 12, v => v = .slice la k lc
  | 14, v => v = .slice ga n gc
  | 15, v => v = .int .i64 (n : Int)
  | 17, v => v = .slice ga n gc
  | 19, v => v = .slice ga n gc
  | 20, v => v = .int .i64 (n : Int)
  | _, _ => True
def OkNst (B : Nat) (ga : Option Addr) (n gc : Nat) (ma : Option Addr) (m mc : Nat) (la : Option Addr) (k lc : Nat) (PS : List (List Nat)) (PF PG : List (Option Nat)) : Nat → Nat → Nat → Nat → World → Prop
  | 1, b, lo, hi, w => RepG w (fun q => lo ≤ q ∧ q < hi) (some ⟨b, 0, none⟩) (gUpG PS)
  | 7, b, lo, hi, w => Row w b 3 (os PF)
  | 13, b, lo, hi, w => Row w b 3 (os PG)
  | 16, b, lo, hi, w => Row w b 4 (bsV (List.replicate n false))
  | 18, b, lo, hi, w => Row w b 3 (os (List.replicate n none))
  | 21, b, lo, hi, w => Row w b 3 (ns (List.replicate n 0))
  | _, _, _, _, _ => True
def LnNst (B : Nat) (ga : Option Addr) (n gc : Nat) (ma : Option Addr) (m mc : Nat) (la : Option Addr) (k lc : Nat) (PS : List (List Nat)) (PF PG : List (Option Nat)) : Nat → Nat
  | 1 => n
  | 7 => n
  | 13 => n
  | 16 => n
  | 18 => n
  | 21 => n
  | _ => 0
def AlNst : Nat → Bool
  | 1 => true
  | 7 => true
  | 13 => true
  | 16 => true
  | 18 => true
  | 21 => true
  | _ => false
def RNst (B : Nat) (ga : Option Addr) (n gc : Nat) (ma : Option Addr) (m mc : Nat) (la : Option Addr) (k lc : Nat) (PS : List (List Nat)) (PF PG : List (Option Nat)) : RSp := ⟨11, 71, 4, 22, AlNst, PhNst B ga n gc ma m mc la k lc PS PF PG, OkNst B ga n gc ma m mc la k lc PS PF PG, LnNst B ga n gc ma m mc la k lc PS PF PG, fun f => #[f 1, f 7, f 13, f 16, f 18, f 21, .slice none 0 0], 58⟩
theorem alNst_cases {i : Nat} (h : AlNst i = true) : i = 1 ∨ i = 7 ∨ i = 13 ∨ i = 16 ∨ i = 18 ∨ i = 21 := by
  unfold AlNst at h
  split at h
  all_goals first | omega | cases h
theorem GNst (B : Nat) (ga : Option Addr) (n gc : Nat) (ma : Option Addr) (m mc : Nat) (la : Option Addr) (k lc : Nat) (PS : List (List Nat)) (PF PG : List (Option Nat)) : RGood (RNst B ga n gc ma m mc la k lc PS PF PG) := by
  refine ⟨by show 4 < 11; omega, by show 11 + 22 + 2 ≤ 71; omega, ?_, ?_⟩
  · intro i b lo hi w w' he h1 h2 h3 h4
    show OkNst B ga n gc ma m mc la k lc PS PF PG i b lo hi w'
    have h4 : OkNst B ga n gc ma m mc la k lc PS PF PG i b lo hi w := h4
    unfold OkNst at h4 ⊢
    split
    all_goals first | exact trivial | (simp only at h4; first | exact Row.on h4 he | exact RepG.to (fun q hq => ⟨hq, he.block q (by omega)⟩) h4)
  · intro f g h
    have h : ∀ i, i < 22 → AlNst i = true → f i = g i := h
    show #[f 1, f 7, f 13, f 16, f 18, f 21, .slice none 0 0] = #[g 1, g 7, g 13, g 16, g 18, g 21, .slice none 0 0]
    rw [h 1 (by omega) rfl, h 7 (by omega) rfl, h 13 (by omega) rfl, h 16 (by omega) rfl, h 18 (by omega) rfl, h 21 (by omega) rfl]

theorem entNstPreds (v0 : Value) (W : World) : (callFunc 17 #[v0]).run Try.prog W = .ok (.enter 17 #[v0]) W := by kernel_rfl
theorem entNstplaces (v0 v1 : Value) (W : World) : (callFunc 43 #[v0, v1]).run Try.prog W = .ok (.enter 43 #[v0, v1]) W := by kernel_rfl
theorem entNstnoneOf (v0 : Value) (W : World) : (callFunc 29 #[v0]).run Try.prog W = .ok (.enter 29 #[v0]) W := by kernel_rfl

set_option maxHeartbeats 8000000 in
theorem regionNst (A : Array Value) (W : World) (B : Nat) (ga : Option Addr) (n gc : Nat) (ma : Option Addr) (m mc : Nat) (la : Option Addr) (k lc : Nat) (PS : List (List Nat)) (PF PG : List (Option Nat)) (hs : A.size = 71) (t0 : A[0]? = some (.slice ga n gc)) (t3 : A[3]? = some (.pointer (some ⟨B, 0, none⟩)))
    (q4 : W.cell? ⟨B, 4, none⟩ = some (.slice ma m mc)) (q5 : W.cell? ⟨B, 5, none⟩ = some (.slice la k lc))
    (m1 : ∀ w : World, (Instr.makeSlice 35 (.int .i64 (n : Int)) (.int .i64 (n : Int))).run Try.prog w = .ok (.slice (some ⟨w.heap.size, 0, none⟩) n n) (w.alloc (nwB n)))
    (m2 : ∀ w : World, (Instr.makeSlice 22 (.int .i64 (n : Int)) (.int .i64 (n : Int))).run Try.prog w = .ok (.slice (some ⟨w.heap.size, 0, none⟩) n n) (w.alloc (nwN n)))
    (HPr : Hd (∀ w : World, Ext W w → Calls Try.prog 17 #[.slice ga n gc] w fun e w' => ∃ b, e = .returned (slV b n) ∧ Ext w w' ∧ w.heap.size ≤ b ∧ b < w'.heap.size ∧ RepG w' (fun q => w.heap.size ≤ q ∧ q < w'.heap.size) (some ⟨b, 0, none⟩) (gUpG PS)))
    (HPf : Hd (∀ w : World, Ext W w → Calls Try.prog 43 #[.slice ga n gc, .slice ma m mc] w fun e w' => ∃ b, e = .returned (slV b n) ∧ Ext w w' ∧ w.heap.size ≤ b ∧ b < w'.heap.size ∧ Row w' b 3 (os PF)))
    (HPg : Hd (∀ w : World, Ext W w → Calls Try.prog 43 #[.slice ga n gc, .slice la k lc] w fun e w' => ∃ b, e = .returned (slV b n) ∧ Ext w w' ∧ w.heap.size ≤ b ∧ b < w'.heap.size ∧ Row w' b 3 (os PG)))
    (HNo : Hd (∀ w : World, Ext W w → Calls Try.prog 29 #[.slice ga n gc] w fun e w' => ∃ b, e = .returned (slV b n) ∧ Ext w w' ∧ w.heap.size ≤ b ∧ b < w'.heap.size ∧ Row w' b 3 (os (List.replicate n none)))) :
    Code.wp Try.prog ((Try.f31.body.bind (regionAt 2)).getD .skip) (RPost (RNst B ga n gc ma m mc la k lc PS PF PG) A W) ⟨A, []⟩ W := by
  conv => arg 2; whnf
  refine wp_region_any (by kernel_rfl) (wpAny_inv (fun l a w => a.defers = [] ∧ RInv (RNst B ga n gc ma m mc la k lc PS PF PG) A W l a.tmps w) ?_ ?_ _ _ _ _ ?_ ?_)
  · rintro l ⟨T, d⟩ w ⟨hd, hI⟩ i hi
    obtain rfl : d = [] := hd
    have hI : RInv (RNst B ga n gc ma m mc la k lc PS PF PG) A W l T w := hI
    have hnd := not_ltA (ready_open hi)
    have hr := hi
    unfold Region.ready at hr
    rw [List.mem_filter] at hr
    obtain ⟨hr1, hr2⟩ := hr
    have hN : i < 25 := by simpa using hr1
    clear hr1 hi
    have hTs : T.size = 71 := hI.len
    have G := GNst B ga n gc ma m mc la k lc PS PF PG
    have c4 := hI.ext.cell q4
    have c5 := hI.ext.cell q5
    have u0 : T[0] = .slice ga n gc := atA (T := T) (i := 0) ((hI.keep 0 (Or.inl (by show 0 < 11; omega)) (by show 0 ≠ 4; omega)).trans t0) (by omega)
    have u3 : T[3] = .pointer (some ⟨B, 0, none⟩) := atA (T := T) (i := 3) ((hI.keep 3 (Or.inl (by show 3 < 11; omega)) (by show 3 ≠ 4; omega)).trans t3) (by omega)
    rcases (show i = 0 ∨ i = 1 ∨ i = 2 ∨ i = 3 ∨ i = 4 ∨ i = 5 ∨ i = 6 ∨ i = 7 ∨ i = 8 ∨ i = 9 ∨ i = 10 ∨ i = 11 ∨ i = 12 ∨ i = 13 ∨ i = 14 ∨ i = 15 ∨ i = 16 ∨ i = 17 ∨ i = 18 ∨ i = 19 ∨ i = 20 ∨ i = 21 ∨ i = 22 ∨ i = 23 ∨ i = 24 by omega) with rfl | rfl | rfl | rfl | rfl | rfl | rfl | rfl | rfl | rfl | rfl | rfl | rfl | rfl | rfl | rfl | rfl | rfl | rfl | rfl | rfl | rfl | rfl | rfl | rfl
    · simp [Region.binds] at hr2
      refine wpOp_want rfl (by simp [Region.wanted, yielded, hTs]) ?_
      clear hr2
      go_simp
      exact hI.const G 0 (by show 0 < 22; omega) rfl _ rfl
    · simp [Region.binds] at hr2
      obtain ⟨x0, y0, z0⟩ := hI.cs 0 (by show 0 < 22; omega) rfl (show ltA l 0 from (by first | exact hr2.2 | exact hr2.2.1 | exact hr2.2.2 | exact hr2.2.2.1 | exact hr2.2.2.2 | exact hr2.2.2.2.1 | exact hr2.2.2.2.2 | exact hr2.1.1 | exact hr2.1.2 | simp_all))
      have u11 : T[11] = .slice ga n gc := by rw [← (show x0 = .slice ga n gc from z0)]; exact atA (T := T) (i := 11) y0 (by omega)
      refine wpOp_want rfl (by simp [Region.wanted, yielded, hTs]) ?_
      clear hr2
      refine wp_call_xs 17 #[.tmp 11] #[23] rfl #[.slice ga n gc] (by simp [Act.eval, hTs, u11]) (entNstPreds _ _) (Calls.mono (unhide HPr w hI.ext) ?_)
      rintro e w1 ⟨b, rfl, hx, hb, hb2, hok⟩
      exact ⟨_, rfl, rfl, hI.alloc G 1 (by show 1 < 22; omega) rfl hnd b w.heap.size w1.heap.size w1 hx (Nat.le_refl _) hb hb2 (Nat.le_refl _) hok⟩
    · simp [Region.binds] at hr2
      refine wpOp_want rfl (by simp [Region.wanted, yielded, hTs]) ?_
      clear hr2
      go_simp
      exact hI.const G 2 (by show 2 < 22; omega) rfl _ rfl
    · simp [Region.binds] at hr2
      refine wpOp_want rfl (by simp [Region.wanted, yielded, hTs]) ?_
      clear hr2
      go_simp
      exact hI.const G 3 (by show 3 < 22; omega) rfl _ rfl
    · simp [Region.binds] at hr2
      obtain ⟨x3, y3, z3⟩ := hI.cs 3 (by show 3 < 22; omega) rfl (show ltA l 3 from (by first | exact hr2.2 | exact hr2.2.1 | exact hr2.2.2 | exact hr2.2.2.1 | exact hr2.2.2.2 | exact hr2.2.2.2.1 | exact hr2.2.2.2.2 | exact hr2.1.1 | exact hr2.1.2 | simp_all))
      have u14 : T[14] = .pointer (some ⟨B, 0, none⟩) := by rw [← (show x3 = .pointer (some ⟨B, 0, none⟩) from z3)]; exact atA (T := T) (i := 14) y3 (by omega)
      refine wpOp_want rfl (by simp [Region.wanted, yielded, hTs]) ?_
      clear hr2
      go_simp
      exact hI.const G 4 (by show 4 < 22; omega) rfl _ rfl
    · simp [Region.binds] at hr2
      obtain ⟨x4, y4, z4⟩ := hI.cs 4 (by show 4 < 22; omega) rfl (show ltA l 4 from (by first | exact hr2.2 | exact hr2.2.1 | exact hr2.2.2 | exact hr2.2.2.1 | exact hr2.2.2.2 | exact hr2.2.2.2.1 | exact hr2.2.2.2.2 | exact hr2.1.1 | exact hr2.1.2 | simp_all))
      have u15 : T[15] = .pointer (some ⟨B, 0, none⟩) := by rw [← (show x4 = .pointer (some ⟨B, 0, none⟩) from z4)]; exact atA (T := T) (i := 15) y4 (by omega)
      refine wpOp_want rfl (by simp [Region.wanted, yielded, hTs]) ?_
      clear hr2
      go_simp
      exact hI.const G 5 (by show 5 < 22; omega) rfl _ rfl
    · simp [Region.binds] at hr2
      obtain ⟨x5, y5, z5⟩ := hI.cs 5 (by show 5 < 22; omega) rfl (show ltA l 5 from (by first | exact hr2.2 | exact hr2.2.1 | exact hr2.2.2 | exact hr2.2.2.1 | exact hr2.2.2.2 | exact hr2.2.2.2.1 | exact hr2.2.2.2.2 | exact hr2.1.1 | exact hr2.1.2 | simp_all))
      have u16 : T[16] = .pointer (some ⟨B, 4, none⟩) := by rw [← (show x5 = .pointer (some ⟨B, 4, none⟩) from z5)]; exact atA (T := T) (i := 16) y5 (by omega)
      refine wpOp_want rfl (by simp [Region.wanted, yielded, hTs]) ?_
      clear hr2
      go_simp
      exact hI.const G 6 (by show 6 < 22; omega) rfl _ rfl
    · simp [Region.binds] at hr2
      obtain ⟨x2, y2, z2⟩ := hI.cs 2 (by show 2 < 22; omega) rfl (show ltA l 2 from (by first | exact hr2.2 | exact hr2.2.1 | exact hr2.2.2 | exact hr2.2.2.1 | exact hr2.2.2.2 | exact hr2.2.2.2.1 | exact hr2.2.2.2.2 | exact hr2.1.1 | exact hr2.1.2 | simp_all))
      have u13 : T[13] = .slice ga n gc := by rw [← (show x2 = .slice ga n gc from z2)]; exact atA (T := T) (i := 13) y2 (by omega)
      obtain ⟨x6, y6, z6⟩ := hI.cs 6 (by show 6 < 22; omega) rfl (show ltA l 6 from (by first | exact hr2.2 | exact hr2.2.1 | exact hr2.2.2 | exact hr2.2.2.1 | exact hr2.2.2.2 | exact hr2.2.2.2.1 | exact hr2.2.2.2.2 | exact hr2.1.1 | exact hr2.1.2 | simp_all))
      have u17 : T[17] = .slice ma m mc := by rw [← (show x6 = .slice ma m mc from z6)]; exact atA (T := T) (i := 17) y6 (by omega)
      refine wpOp_want rfl (by simp [Region.wanted, yielded, hTs]) ?_
      clear hr2
      refine wp_call_xs 43 #[.tmp 13, .tmp 17] #[23, 22] rfl #[.slice ga n gc, .slice ma m mc] (by simp [Act.eval, hTs, u13, u17]) (entNstplaces _ _ _) (Calls.mono (unhide HPf w hI.ext) ?_)
      rintro e w1 ⟨b, rfl, hx, hb, hb2, hok⟩
      exact ⟨_, rfl, rfl, hI.alloc G 7 (by show 7 < 22; omega) rfl hnd b w.heap.size w1.heap.size w1 hx (Nat.le_refl _) hb hb2 (Nat.le_refl _) hok⟩
    · simp [Region.binds] at hr2
      refine wpOp_want rfl (by simp [Region.wanted, yielded, hTs]) ?_
      clear hr2
      go_simp
      exact hI.const G 8 (by show 8 < 22; omega) rfl _ rfl
    · simp [Region.binds] at hr2
      refine wpOp_want rfl (by simp [Region.wanted, yielded, hTs]) ?_
      clear hr2
      go_simp
      exact hI.const G 9 (by show 9 < 22; omega) rfl _ rfl
    · simp [Region.binds] at hr2
      obtain ⟨x9, y9, z9⟩ := hI.cs 9 (by show 9 < 22; omega) rfl (show ltA l 9 from (by first | exact hr2.2 | exact hr2.2.1 | exact hr2.2.2 | exact hr2.2.2.1 | exact hr2.2.2.2 | exact hr2.2.2.2.1 | exact hr2.2.2.2.2 | exact hr2.1.1 | exact hr2.1.2 | simp_all))
      have u20 : T[20] = .pointer (some ⟨B, 0, none⟩) := by rw [← (show x9 = .pointer (some ⟨B, 0, none⟩) from z9)]; exact atA (T := T) (i := 20) y9 (by omega)
      refine wpOp_want rfl (by simp [Region.wanted, yielded, hTs]) ?_
      clear hr2
      go_simp
      exact hI.const G 10 (by show 10 < 22; omega) rfl _ rfl
    · simp [Region.binds] at hr2
      obtain ⟨x10, y10, z10⟩ := hI.cs 10 (by show 10 < 22; omega) rfl (show ltA l 10 from (by first | exact hr2.2 | exact hr2.2.1 | exact hr2.2.2 | exact hr2.2.2.1 | exact hr2.2.2.2 | exact hr2.2.2.2.1 | exact hr2.2.2.2.2 | exact hr2.1.1 | exact hr2.1.2 | simp_all))
      have u21 : T[21] = .pointer (some ⟨B, 0, none⟩) := by rw [← (show x10 = .pointer (some ⟨B, 0, none⟩) from z10)]; exact atA (T := T) (i := 21) y10 (by omega)
      refine wpOp_want rfl (by simp [Region.wanted, yielded, hTs]) ?_
      clear hr2
      go_simp
      exact hI.const G 11 (by show 11 < 22; omega) rfl _ rfl
    · simp [Region.binds] at hr2
      obtain ⟨x11, y11, z11⟩ := hI.cs 11 (by show 11 < 22; omega) rfl (show ltA l 11 from (by first | exact hr2.2 | exact hr2.2.1 | exact hr2.2.2 | exact hr2.2.2.1 | exact hr2.2.2.2 | exact hr2.2.2.2.1 | exact hr2.2.2.2.2 | exact hr2.1.1 | exact hr2.1.2 | simp_all))
      have u22 : T[22] = .pointer (some ⟨B, 5, none⟩) := by rw [← (show x11 = .pointer (some ⟨B, 5, none⟩) from z11)]; exact atA (T := T) (i := 22) y11 (by omega)
      refine wpOp_want rfl (by simp [Region.wanted, yielded, hTs]) ?_
      clear hr2
      go_simp
      exact hI.const G 12 (by show 12 < 22; omega) rfl _ rfl
    · simp [Region.binds] at hr2
      obtain ⟨x8, y8, z8⟩ := hI.cs 8 (by show 8 < 22; omega) rfl (show ltA l 8 from (by first | exact hr2.2 | exact hr2.2.1 | exact hr2.2.2 | exact hr2.2.2.1 | exact hr2.2.2.2 | exact hr2.2.2.2.1 | exact hr2.2.2.2.2 | exact hr2.1.1 | exact hr2.1.2 | simp_all))
      have u19 : T[19] = .slice ga n gc := by rw [← (show x8 = .slice ga n gc from z8)]; exact atA (T := T) (i := 19) y8 (by omega)
      obtain ⟨x12, y12, z12⟩ := hI.cs 12 (by show 12 < 22; omega) rfl (show ltA l 12 from (by first | exact hr2.2 | exact hr2.2.1 | exact hr2.2.2 | exact hr2.2.2.1 | exact hr2.2.2.2 | exact hr2.2.2.2.1 | exact hr2.2.2.2.2 | exact hr2.1.1 | exact hr2.1.2 | simp_all))
      have u23 : T[23] = .slice la k lc := by rw [← (show x12 = .slice la k lc from z12)]; exact atA (T := T) (i := 23) y12 (by omega)
      refine wpOp_want rfl (by simp [Region.wanted, yielded, hTs]) ?_
      clear hr2
      refine wp_call_xs 43 #[.tmp 19, .tmp 23] #[23, 22] rfl #[.slice ga n gc, .slice la k lc] (by simp [Act.eval, hTs, u19, u23]) (entNstplaces _ _ _) (Calls.mono (unhide HPg w hI.ext) ?_)
      rintro e w1 ⟨b, rfl, hx, hb, hb2, hok⟩
      exact ⟨_, rfl, rfl, hI.alloc G 13 (by show 13 < 22; omega) rfl hnd b w.heap.size w1.heap.size w1 hx (Nat.le_refl _) hb hb2 (Nat.le_refl _) hok⟩
    · simp [Region.binds] at hr2
      refine wpOp_want rfl (by simp [Region.wanted, yielded, hTs]) ?_
      clear hr2
      go_simp
      exact hI.const G 14 (by show 14 < 22; omega) rfl _ rfl
    · simp [Region.binds] at hr2
      obtain ⟨x14, y14, z14⟩ := hI.cs 14 (by show 14 < 22; omega) rfl (show ltA l 14 from (by first | exact hr2.2 | exact hr2.2.1 | exact hr2.2.2 | exact hr2.2.2.1 | exact hr2.2.2.2 | exact hr2.2.2.2.1 | exact hr2.2.2.2.2 | exact hr2.1.1 | exact hr2.1.2 | simp_all))
      have u25 : T[25] = .slice ga n gc := by rw [← (show x14 = .slice ga n gc from z14)]; exact atA (T := T) (i := 25) y14 (by omega)
      refine wpOp_want rfl (by simp [Region.wanted, yielded, hTs]) ?_
      clear hr2
      go_simp
      exact hI.const G 15 (by show 15 < 22; omega) rfl _ rfl
    · simp [Region.binds] at hr2
      obtain ⟨x15, y15, z15⟩ := hI.cs 15 (by show 15 < 22; omega) rfl (show ltA l 15 from (by first | exact hr2.2 | exact hr2.2.1 | exact hr2.2.2 | exact hr2.2.2.1 | exact hr2.2.2.2 | exact hr2.2.2.2.1 | exact hr2.2.2.2.2 | exact hr2.1.1 | exact hr2.1.2 | simp_all))
      have u26 : T[26] = .int .i64 (n : Int) := by rw [← (show x15 = .int .i64 (n : Int) from z15)]; exact atA (T := T) (i := 26) y15 (by omega)
      refine wpOp_want rfl (by simp [Region.wanted, yielded, hTs]) ?_
      clear hr2
      go_simp
      exact hI.alloc G 16 (by show 16 < 22; omega) rfl hnd w.heap.size w.heap.size (w.heap.size + 1) _ (Ext.alloc _ _) (Nat.le_refl _) (Nat.le_refl _) (by omega) (by rw [sz1]; omega) (rowB w _)
    · simp [Region.binds] at hr2
      refine wpOp_want rfl (by simp [Region.wanted, yielded, hTs]) ?_
      clear hr2
      go_simp
      exact hI.const G 17 (by show 17 < 22; omega) rfl _ rfl
    · simp [Region.binds] at hr2
      obtain ⟨x17, y17, z17⟩ := hI.cs 17 (by show 17 < 22; omega) rfl (show ltA l 17 from (by first | exact hr2.2 | exact hr2.2.1 | exact hr2.2.2 | exact hr2.2.2.1 | exact hr2.2.2.2 | exact hr2.2.2.2.1 | exact hr2.2.2.2.2 | exact hr2.1.1 | exact hr2.1.2 | simp_all))
      have u28 : T[28] = .slice ga n gc := by rw [← (show x17 = .slice ga n gc from z17)]; exact atA (T := T) (i := 28) y17 (by omega)
      refine wpOp_want rfl (by simp [Region.wanted, yielded, hTs]) ?_
      clear hr2
      refine wp_call_xs 29 #[.tmp 28] #[23] rfl #[.slice ga n gc] (by simp [Act.eval, hTs, u28]) (entNstnoneOf _ _) (Calls.mono (unhide HNo w hI.ext) ?_)
      rintro e w1 ⟨b, rfl, hx, hb, hb2, hok⟩
      exact ⟨_, rfl, rfl, hI.alloc G 18 (by show 18 < 22; omega) rfl hnd b w.heap.size w1.heap.size w1 hx (Nat.le_refl _) hb hb2 (Nat.le_refl _) hok⟩
    · simp [Region.binds] at hr2
      refine wpOp_want rfl (by simp [Region.wanted, yielded, hTs]) ?_
      clear hr2
      go_simp
      exact hI.const G 19 (by show 19 < 22; omega) rfl _ rfl
    · simp [Region.binds] at hr2
      obtain ⟨x19, y19, z19⟩ := hI.cs 19 (by show 19 < 22; omega) rfl (show ltA l 19 from (by first | exact hr2.2 | exact hr2.2.1 | exact hr2.2.2 | exact hr2.2.2.1 | exact hr2.2.2.2 | exact hr2.2.2.2.1 | exact hr2.2.2.2.2 | exact hr2.1.1 | exact hr2.1.2 | simp_all))
      have u30 : T[30] = .slice ga n gc := by rw [← (show x19 = .slice ga n gc from z19)]; exact atA (T := T) (i := 30) y19 (by omega)
      refine wpOp_want rfl (by simp [Region.wanted, yielded, hTs]) ?_
      clear hr2
      go_simp
      exact hI.const G 20 (by show 20 < 22; omega) rfl _ rfl
    · simp [Region.binds] at hr2
      obtain ⟨x20, y20, z20⟩ := hI.cs 20 (by show 20 < 22; omega) rfl (show ltA l 20 from (by first | exact hr2.2 | exact hr2.2.1 | exact hr2.2.2 | exact hr2.2.2.1 | exact hr2.2.2.2 | exact hr2.2.2.2.1 | exact hr2.2.2.2.2 | exact hr2.1.1 | exact hr2.1.2 | simp_all))
      have u31 : T[31] = .int .i64 (n : Int) := by rw [← (show x20 = .int .i64 (n : Int) from z20)]; exact atA (T := T) (i := 31) y20 (by omega)
      refine wpOp_want rfl (by simp [Region.wanted, yielded, hTs]) ?_
      clear hr2
      go_simp
      exact hI.alloc G 21 (by show 21 < 22; omega) rfl hnd w.heap.size w.heap.size (w.heap.size + 1) _ (Ext.alloc _ _) (Nat.le_refl _) (Nat.le_refl _) (by omega) (by rw [sz1]; omega) (rowN w _)
    · simp [Region.binds] at hr2
      have hal : ∀ i, i < 22 → AlNst i = true → ltA l i := by
        intro j hj ha
        rcases alNst_cases ha with rfl | rfl | rfl | rfl | rfl | rfl
        all_goals first | exact hr2.2.1 | exact hr2.2.2.1 | exact hr2.2.2.2.1 | exact hr2.2.2.2.2.1 | exact hr2.2.2.2.2.2.1 | exact hr2.2 | exact hr2.2.2 | exact hr2.2.2.2 | exact hr2.2.2.2.2 | exact hr2.2.2.2.2.2 | exact hr2.2.2.2.2.2.2 | simp_all
      obtain ⟨bl0, lo0, hh0, C0, E0⟩ := hI.ex
      have hb0 : ∀ i, i < 22 → AlNst i = true → T[11 + i]? = some (slV (bl0 i) (LnNst B ga n gc ma m mc la k lc PS PF PG i)) := fun i hi ha => (E0.al i hi ha (hal i hi ha)).1
      have u12 : T[12] = slV (bl0 1) (n) := atA (T := T) (i := 12) (hb0 1 (by omega) rfl) (by omega)
      have u18 : T[18] = slV (bl0 7) (n) := atA (T := T) (i := 18) (hb0 7 (by omega) rfl) (by omega)
      have u24 : T[24] = slV (bl0 13) (n) := atA (T := T) (i := 24) (hb0 13 (by omega) rfl) (by omega)
      have u27 : T[27] = slV (bl0 16) (n) := atA (T := T) (i := 27) (hb0 16 (by omega) rfl) (by omega)
      have u29 : T[29] = slV (bl0 18) (n) := atA (T := T) (i := 29) (hb0 18 (by omega) rfl) (by omega)
      have u32 : T[32] = slV (bl0 21) (n) := atA (T := T) (i := 32) (hb0 21 (by omega) rfl) (by omega)
      refine wpOp_want rfl (by simp [Region.wanted, yielded, hTs]) ?_
      clear hr2 E0
      go_simp
      refine hI.build G hal hnd _ (fun bl hb => ?_)
      have hb : ∀ i, i < 22 → AlNst i = true → T[11 + i]? = some (slV (bl i) (LnNst B ga n gc ma m mc la k lc PS PF PG i)) := hb
      have e1 : slV (bl0 1) (n) = slV (bl 1) (n) := by rw [← u12]; exact atA (T := T) (i := 12) (hb 1 (by omega) rfl) (by omega)
      have e7 : slV (bl0 7) (n) = slV (bl 7) (n) := by rw [← u18]; exact atA (T := T) (i := 18) (hb 7 (by omega) rfl) (by omega)
      have e13 : slV (bl0 13) (n) = slV (bl 13) (n) := by rw [← u24]; exact atA (T := T) (i := 24) (hb 13 (by omega) rfl) (by omega)
      have e16 : slV (bl0 16) (n) = slV (bl 16) (n) := by rw [← u27]; exact atA (T := T) (i := 27) (hb 16 (by omega) rfl) (by omega)
      have e18 : slV (bl0 18) (n) = slV (bl 18) (n) := by rw [← u29]; exact atA (T := T) (i := 29) (hb 18 (by omega) rfl) (by omega)
      have e21 : slV (bl0 21) (n) = slV (bl 21) (n) := by rw [← u32]; exact atA (T := T) (i := 32) (hb 21 (by omega) rfl) (by omega)
      rw [e1, e7, e13, e16, e18, e21]
      rfl
    · simp [Region.binds] at hr2
      obtain ⟨vs, hvs, ⟨bl, hbl⟩, hI'⟩ := hI.box G (show ltA l 22 from (by first | exact hr2.2 | exact hr2.2.1 | exact hr2.2.2 | exact hr2.2.2.1 | exact hr2.2.2.2 | exact hr2.2.2.2.1 | exact hr2.2.2.2.2 | exact hr2.1.1 | exact hr2.1.2 | simp_all)) hnd
      have hbl : vs = #[(fun i => slV (bl i) (LnNst B ga n gc ma m mc la k lc PS PF PG i)) 1, (fun i => slV (bl i) (LnNst B ga n gc ma m mc la k lc PS PF PG i)) 7, (fun i => slV (bl i) (LnNst B ga n gc ma m mc la k lc PS PF PG i)) 13, (fun i => slV (bl i) (LnNst B ga n gc ma m mc la k lc PS PF PG i)) 16, (fun i => slV (bl i) (LnNst B ga n gc ma m mc la k lc PS PF PG i)) 18, (fun i => slV (bl i) (LnNst B ga n gc ma m mc la k lc PS PF PG i)) 21, .slice none 0 0] := hbl
      have e : T[33] = .agg vs := atA (T := T) (i := 33) hvs (by omega)
      subst hbl
      refine wpOp_want rfl (by simp [Region.wanted, yielded, hTs]) ?_
      clear hr2
      go_simp
      exact hI'
    · simp [Region.binds] at hr2
      obtain ⟨C, hC, hI'⟩ := hI.last G (show ltA l 23 from (by first | exact hr2.2 | exact hr2.2.1 | exact hr2.2.2 | exact hr2.2.2.1 | exact hr2.2.2.2 | exact hr2.2.2.2.1 | exact hr2.2.2.2.2 | exact hr2.1.1 | exact hr2.1.2 | simp_all))
      have e : T[34] = ptV C := atA (T := T) (i := 34) hC (by omega)
      refine wpOp_want rfl (by simp [Region.wanted, yielded, hTs]) ?_
      clear hr2
      go_simp
      exact hI'
  · rintro l ⟨T, d⟩ w ⟨hd, hI⟩ hz
    have hI : RInv (RNst B ga n gc ma m mc la k lc PS PF PG) A W l T w := hI
    have up : ∀ i, i < 25 → (ltA l i → False) → l[i]?.getD true = false := fun i hi hc => by
      have hil : i < l.size := by rw [hI.sz]; exact hi
      have e : l[i]? = some l[i] := Array.getElem?_eq_getElem hil
      rw [e]
      cases hb : l[i] with
      | false => rfl
      | true => exact absurd (by unfold ltA; rw [e, hb]; rfl) hc
    have r0 : l[0]?.getD false = true := Classical.byContradiction fun hc => by
      have hb := up 0 (by omega) hc
      refine absurd (?_ : 0 ∈ Region.ready _ _ l) (by rw [hz]; simp)
      unfold Region.ready
      rw [List.mem_filter]
      exact ⟨by simp, by simp [Region.binds, hb]⟩
    have r1 : l[1]?.getD false = true := Classical.byContradiction fun hc => by
      have hb := up 1 (by omega) hc
      refine absurd (?_ : 1 ∈ Region.ready _ _ l) (by rw [hz]; simp)
      unfold Region.ready
      rw [List.mem_filter]
      exact ⟨by simp, by simp [Region.binds, hb, r0]⟩
    have r2 : l[2]?.getD false = true := Classical.byContradiction fun hc => by
      have hb := up 2 (by omega) hc
      refine absurd (?_ : 2 ∈ Region.ready _ _ l) (by rw [hz]; simp)
      unfold Region.ready
      rw [List.mem_filter]
      exact ⟨by simp, by simp [Region.binds, hb, r0, r1]⟩
    have r3 : l[3]?.getD false = true := Classical.byContradiction fun hc => by
      have hb := up 3 (by omega) hc
      refine absurd (?_ : 3 ∈ Region.ready _ _ l) (by rw [hz]; simp)
      unfold Region.ready
      rw [List.mem_filter]
      exact ⟨by simp, by simp [Region.binds, hb, r0, r1, r2]⟩
    have r4 : l[4]?.getD false = true := Classical.byContradiction fun hc => by
      have hb := up 4 (by omega) hc
      refine absurd (?_ : 4 ∈ Region.ready _ _ l) (by rw [hz]; simp)
      unfold Region.ready
      rw [List.mem_filter]
      exact ⟨by simp, by simp [Region.binds, hb, r0, r1, r2, r3]⟩
    have r5 : l[5]?.getD false = true := Classical.byContradiction fun hc => by
      have hb := up 5 (by omega) hc
      refine absurd (?_ : 5 ∈ Region.ready _ _ l) (by rw [hz]; simp)
      unfold Region.ready
      rw [List.mem_filter]
      exact ⟨by simp, by simp [Region.binds, hb, r0, r1, r2, r3, r4]⟩
    have r6 : l[6]?.getD false = true := Classical.byContradiction fun hc => by
      have hb := up 6 (by omega) hc
      refine absurd (?_ : 6 ∈ Region.ready _ _ l) (by rw [hz]; simp)
      unfold Region.ready
      rw [List.mem_filter]
      exact ⟨by simp, by simp [Region.binds, hb, r0, r1, r2, r3, r4, r5]⟩
    have r7 : l[7]?.getD false = true := Classical.byContradiction fun hc => by
      have hb := up 7 (by omega) hc
      refine absurd (?_ : 7 ∈ Region.ready _ _ l) (by rw [hz]; simp)
      unfold Region.ready
      rw [List.mem_filter]
      exact ⟨by simp, by simp [Region.binds, hb, r0, r1, r2, r3, r4, r5, r6]⟩
    have r8 : l[8]?.getD false = true := Classical.byContradiction fun hc => by
      have hb := up 8 (by omega) hc
      refine absurd (?_ : 8 ∈ Region.ready _ _ l) (by rw [hz]; simp)
      unfold Region.ready
      rw [List.mem_filter]
      exact ⟨by simp, by simp [Region.binds, hb, r0, r1, r2, r3, r4, r5, r6, r7]⟩
    have r9 : l[9]?.getD false = true := Classical.byContradiction fun hc => by
      have hb := up 9 (by omega) hc
      refine absurd (?_ : 9 ∈ Region.ready _ _ l) (by rw [hz]; simp)
      unfold Region.ready
      rw [List.mem_filter]
      exact ⟨by simp, by simp [Region.binds, hb, r0, r1, r2, r3, r4, r5, r6, r7, r8]⟩
    have r10 : l[10]?.getD false = true := Classical.byContradiction fun hc => by
      have hb := up 10 (by omega) hc
      refine absurd (?_ : 10 ∈ Region.ready _ _ l) (by rw [hz]; simp)
      unfold Region.ready
      rw [List.mem_filter]
      exact ⟨by simp, by simp [Region.binds, hb, r0, r1, r2, r3, r4, r5, r6, r7, r8, r9]⟩
    have r11 : l[11]?.getD false = true := Classical.byContradiction fun hc => by
      have hb := up 11 (by omega) hc
      refine absurd (?_ : 11 ∈ Region.ready _ _ l) (by rw [hz]; simp)
      unfold Region.ready
      rw [List.mem_filter]
      exact ⟨by simp, by simp [Region.binds, hb, r0, r1, r2, r3, r4, r5, r6, r7, r8, r9, r10]⟩
    have r12 : l[12]?.getD false = true := Classical.byContradiction fun hc => by
      have hb := up 12 (by omega) hc
      refine absurd (?_ : 12 ∈ Region.ready _ _ l) (by rw [hz]; simp)
      unfold Region.ready
      rw [List.mem_filter]
      exact ⟨by simp, by simp [Region.binds, hb, r0, r1, r2, r3, r4, r5, r6, r7, r8, r9, r10, r11]⟩
    have r13 : l[13]?.getD false = true := Classical.byContradiction fun hc => by
      have hb := up 13 (by omega) hc
      refine absurd (?_ : 13 ∈ Region.ready _ _ l) (by rw [hz]; simp)
      unfold Region.ready
      rw [List.mem_filter]
      exact ⟨by simp, by simp [Region.binds, hb, r0, r1, r2, r3, r4, r5, r6, r7, r8, r9, r10, r11, r12]⟩
    have r14 : l[14]?.getD false = true := Classical.byContradiction fun hc => by
      have hb := up 14 (by omega) hc
      refine absurd (?_ : 14 ∈ Region.ready _ _ l) (by rw [hz]; simp)
      unfold Region.ready
      rw [List.mem_filter]
      exact ⟨by simp, by simp [Region.binds, hb, r0, r1, r2, r3, r4, r5, r6, r7, r8, r9, r10, r11, r12, r13]⟩
    have r15 : l[15]?.getD false = true := Classical.byContradiction fun hc => by
      have hb := up 15 (by omega) hc
      refine absurd (?_ : 15 ∈ Region.ready _ _ l) (by rw [hz]; simp)
      unfold Region.ready
      rw [List.mem_filter]
      exact ⟨by simp, by simp [Region.binds, hb, r0, r1, r2, r3, r4, r5, r6, r7, r8, r9, r10, r11, r12, r13, r14]⟩
    have r16 : l[16]?.getD false = true := Classical.byContradiction fun hc => by
      have hb := up 16 (by omega) hc
      refine absurd (?_ : 16 ∈ Region.ready _ _ l) (by rw [hz]; simp)
      unfold Region.ready
      rw [List.mem_filter]
      exact ⟨by simp, by simp [Region.binds, hb, r0, r1, r2, r3, r4, r5, r6, r7, r8, r9, r10, r11, r12, r13, r14, r15]⟩
    have r17 : l[17]?.getD false = true := Classical.byContradiction fun hc => by
      have hb := up 17 (by omega) hc
      refine absurd (?_ : 17 ∈ Region.ready _ _ l) (by rw [hz]; simp)
      unfold Region.ready
      rw [List.mem_filter]
      exact ⟨by simp, by simp [Region.binds, hb, r0, r1, r2, r3, r4, r5, r6, r7, r8, r9, r10, r11, r12, r13, r14, r15, r16]⟩
    have r18 : l[18]?.getD false = true := Classical.byContradiction fun hc => by
      have hb := up 18 (by omega) hc
      refine absurd (?_ : 18 ∈ Region.ready _ _ l) (by rw [hz]; simp)
      unfold Region.ready
      rw [List.mem_filter]
      exact ⟨by simp, by simp [Region.binds, hb, r0, r1, r2, r3, r4, r5, r6, r7, r8, r9, r10, r11, r12, r13, r14, r15, r16, r17]⟩
    have r19 : l[19]?.getD false = true := Classical.byContradiction fun hc => by
      have hb := up 19 (by omega) hc
      refine absurd (?_ : 19 ∈ Region.ready _ _ l) (by rw [hz]; simp)
      unfold Region.ready
      rw [List.mem_filter]
      exact ⟨by simp, by simp [Region.binds, hb, r0, r1, r2, r3, r4, r5, r6, r7, r8, r9, r10, r11, r12, r13, r14, r15, r16, r17, r18]⟩
    have r20 : l[20]?.getD false = true := Classical.byContradiction fun hc => by
      have hb := up 20 (by omega) hc
      refine absurd (?_ : 20 ∈ Region.ready _ _ l) (by rw [hz]; simp)
      unfold Region.ready
      rw [List.mem_filter]
      exact ⟨by simp, by simp [Region.binds, hb, r0, r1, r2, r3, r4, r5, r6, r7, r8, r9, r10, r11, r12, r13, r14, r15, r16, r17, r18, r19]⟩
    have r21 : l[21]?.getD false = true := Classical.byContradiction fun hc => by
      have hb := up 21 (by omega) hc
      refine absurd (?_ : 21 ∈ Region.ready _ _ l) (by rw [hz]; simp)
      unfold Region.ready
      rw [List.mem_filter]
      exact ⟨by simp, by simp [Region.binds, hb, r0, r1, r2, r3, r4, r5, r6, r7, r8, r9, r10, r11, r12, r13, r14, r15, r16, r17, r18, r19, r20]⟩
    have r22 : l[22]?.getD false = true := Classical.byContradiction fun hc => by
      have hb := up 22 (by omega) hc
      refine absurd (?_ : 22 ∈ Region.ready _ _ l) (by rw [hz]; simp)
      unfold Region.ready
      rw [List.mem_filter]
      exact ⟨by simp, by simp [Region.binds, hb, r0, r1, r2, r3, r4, r5, r6, r7, r8, r9, r10, r11, r12, r13, r14, r15, r16, r17, r18, r19, r20, r21]⟩
    have r23 : l[23]?.getD false = true := Classical.byContradiction fun hc => by
      have hb := up 23 (by omega) hc
      refine absurd (?_ : 23 ∈ Region.ready _ _ l) (by rw [hz]; simp)
      unfold Region.ready
      rw [List.mem_filter]
      exact ⟨by simp, by simp [Region.binds, hb, r0, r1, r2, r3, r4, r5, r6, r7, r8, r9, r10, r11, r12, r13, r14, r15, r16, r17, r18, r19, r20, r21, r22]⟩
    have r24 : l[24]?.getD false = true := Classical.byContradiction fun hc => by
      have hb := up 24 (by omega) hc
      refine absurd (?_ : 24 ∈ Region.ready _ _ l) (by rw [hz]; simp)
      unfold Region.ready
      rw [List.mem_filter]
      exact ⟨by simp, by simp [Region.binds, hb, r0, r1, r2, r3, r4, r5, r6, r7, r8, r9, r10, r11, r12, r13, r14, r15, r16, r17, r18, r19, r20, r21, r22, r23]⟩
    refine ⟨hd, l, hI, fun i hi => ?_⟩
    have hi : i < 25 := hi
    rcases (show i = 0 ∨ i = 1 ∨ i = 2 ∨ i = 3 ∨ i = 4 ∨ i = 5 ∨ i = 6 ∨ i = 7 ∨ i = 8 ∨ i = 9 ∨ i = 10 ∨ i = 11 ∨ i = 12 ∨ i = 13 ∨ i = 14 ∨ i = 15 ∨ i = 16 ∨ i = 17 ∨ i = 18 ∨ i = 19 ∨ i = 20 ∨ i = 21 ∨ i = 22 ∨ i = 23 ∨ i = 24 by omega) with rfl | rfl | rfl | rfl | rfl | rfl | rfl | rfl | rfl | rfl | rfl | rfl | rfl | rfl | rfl | rfl | rfl | rfl | rfl | rfl | rfl | rfl | rfl | rfl | rfl
    · exact r0
    · exact r1
    · exact r2
    · exact r3
    · exact r4
    · exact r5
    · exact r6
    · exact r7
    · exact r8
    · exact r9
    · exact r10
    · exact r11
    · exact r12
    · exact r13
    · exact r14
    · exact r15
    · exact r16
    · exact r17
    · exact r18
    · exact r19
    · exact r20
    · exact r21
    · exact r22
    · exact r23
    · exact r24
  · exact Nat.le_refl 25
  · exact ⟨rfl, RInv.start hs _ (Ext.drew (Ext.refl _))⟩

end Go.Proofs.Ytpfjafjpijmckaa
