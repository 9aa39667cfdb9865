/- The two regions of the round of OpsWholes, in whatever order their operations come. -/
import Derived.Test.YtbkncdjmodeabaaOpsInts
import Derived.Deep.DeepCutAuto
set_option linter.unusedSimpArgs false
set_option linter.unusedVariables false
set_option maxRecDepth 10000
namespace Go.Proofs.Ytbkncdjmodeabaa
open Go.RowKit

theorem wrap_back (a b : Int) (h1 : -9223372036854775808 ≤ a) (h2 : a ≤ 9223372036854775807) : wrap64 (wrap64 (a + b) - b) = a := by
  unfold wrap64
  omega

theorem quo_back (a b : Int) (h1 : -9223372036854775808 ≤ a) (h2 : a ≤ 9223372036854775807) : wrap64 (wrap64 (wrap64 (a.tdiv b) * b) + a.tmod b) = a := by
  have h := Int.mul_tdiv_add_tmod a b
  have e1 : ∃ k, wrap64 (a.tdiv b) = a.tdiv b + k * 18446744073709551616 := ⟨(wrap64 (a.tdiv b) - a.tdiv b) / 18446744073709551616, by unfold wrap64; omega⟩
  obtain ⟨k, hk⟩ := e1
  rw [hk]
  have e2 : (a.tdiv b + k * 18446744073709551616) * b = b * a.tdiv b + (k * b) * 18446744073709551616 := by
    rw [Int.add_mul, Int.mul_comm (a.tdiv b) b, Int.mul_assoc, Int.mul_comm 18446744073709551616 b, ← Int.mul_assoc]
  rw [e2]
  generalize b * a.tdiv b = x at *
  generalize k * b = z at *
  generalize a.tmod b = y at *
  unfold wrap64
  omega

theorem mod_sign (a b : Int) : (0 ≤ a → 0 ≤ a.tmod b) ∧ (a ≤ 0 → a.tmod b ≤ 0) := by
  refine ⟨fun h => Int.tmod_nonneg b h, fun h => ?_⟩
  have := Int.tmod_nonneg b (show 0 ≤ -a by omega)
  rw [Int.neg_tmod] at this
  omega

theorem mod_le (a b : Int) : (0 ≤ a → a.tmod b ≤ a) ∧ (a ≤ 0 → a ≤ a.tmod b) := by
  have key : ∀ x : Int, 0 ≤ x → x.tmod b ≤ x := by
    intro x hx
    obtain ⟨n, rfl⟩ := Int.eq_ofNat_of_zero_le hx
    have e : (n : Int).tmod b = ((n % b.natAbs : Nat) : Int) := by
      rcases Int.natAbs_eq b with hb | hb
      · rw [hb]; exact (Int.ofNat_tmod n b.natAbs).symm
      · have h5 : (n : Int).tmod b = (n : Int).tmod (b.natAbs : Int) := (by conv => { lhs; rw [hb, Int.tmod_neg] })
        rw [h5]; exact (Int.ofNat_tmod n b.natAbs).symm
    rw [e]
    exact Int.ofNat_le.2 (Nat.mod_le _ _)
  refine ⟨key a, fun h => ?_⟩
  have := key (-a) (by omega)
  rw [Int.neg_tmod] at this
  omega

theorem bin_push2 (j : Nat) (hj : j ≤ 15) (a : Option Addr) (c : Nat) (w : World) (hl : RepL w (In w) (ints j) a) (hc : j ≤ c) :
    Calls Try.prog 6 #[.int .i64 13, .agg #[.int .i64 4, .int .i64 0, .complex .f64 0 0, .string ⟨#[]⟩, .slice a j c], .agg #[.int .i64 1, .int .i64 (j : Int), .complex .f64 0 0, .string ⟨#[]⟩, .slice none 0 0]] w
      fun e w' => ∃ a2 c2, e = .returned (.tuple #[.agg #[.int .i64 4, .int .i64 0, .complex .f64 0 0, .string ⟨#[]⟩, .slice a2 (j + 1) c2], .int .i64 0]) ∧ RepL w' (Fresh w w') (ints (j + 1)) a2 ∧ j + 1 ≤ c2 ∧ Ext w w' := by
  refine Calls.mono (bin_push j hj a c w hl hc) ?_
  rintro e w' ⟨r, rfl, hr, hw⟩
  rw [ls, Rep, ints_len] at hr
  obtain ⟨a2, c2, rfl, hb, hl2⟩ := hr
  exact ⟨a2, c2, rfl, hl2, hb.bc, hw⟩

/-- What is known of the variable that holds the next list, wherever it was made. -/
structure Nx (wr wx : World) (gN j : Nat) (a2 : Option Addr) (c2 : Nat) : Prop where
  ext : Ext wr wx
  lo : wr.heap.size ≤ gN
  five : Five wx gN 4 0 0 0 ⟨#[]⟩ a2 (j + 1) c2
  rl : RepL wx (fun b => wr.heap.size ≤ b ∧ b < wx.heap.size ∧ b ≠ gN) (ints (j + 1)) a2
  le : j + 1 ≤ c2

theorem Nx.fresh {wr w1 w2 : World} {j : Nat} {a2 : Option Addr} {c2 : Nat} (h1 : Ext wr w1) (h2 : Ext w1 w2) (hl : RepL w2 (Fresh w1 w2) (ints (j + 1)) a2) (hc : j + 1 ≤ c2) :
    Nx wr (w2.alloc (.cells #[.int .i64 4, .int .i64 0, .complex .f64 0 0, .string ⟨#[]⟩, .slice a2 (j + 1) c2] 25)) w2.heap.size j a2 c2 := by
  refine ⟨(h1.trans h2).trans (Ext.alloc _ _), (h1.trans h2).le, Five.new _ _ _ _ _ _ _ _ _ _, RepL.to (fun b hb => ⟨⟨Nat.le_trans h1.le hb.1, ?_, ?_⟩, (Ext.alloc w2 _).block b hb.2⟩) _ _ hl, hc⟩
  · rw [heap_alloc_size]; have := hb.2; omega
  · have := hb.2; omega

theorem Nx.set {wr w1 w2 : World} {gN j : Nat} {a2 : Option Addr} {c2 : Nat} (h1 : Ext wr w1) (h2 : Ext w1 w2) (lo : wr.heap.size ≤ gN) (hg : gN < w1.heap.size) (hrow : w1.heap[gN]? = some (.cells #[.int .i64 0, .int .i64 0, .complex .f64 0 0, .string ⟨#[]⟩, .slice none 0 0] 25 (0, 0))) (hl : RepL w2 (Fresh w1 w2) (ints (j + 1)) a2) (hc : j + 1 ≤ c2) :
    Nx wr (set5 w2 gN 4 0 0 0 ⟨#[]⟩ a2 (j + 1) c2) gN j a2 c2 := by
  have hs := set5_size w2 gN 4 0 0 0 ⟨#[]⟩ a2 (j + 1) c2
  refine ⟨set5_ext (h1.trans h2) gN lo _ _ _ _ _ _ _ _, lo, Five.ofRow (t := 25) ?_, RepL.to (fun b hb => ⟨⟨Nat.le_trans h1.le hb.1, ?fa, ?fb⟩, ?fc⟩) _ _ hl, hc⟩
  case fa => rw [hs]; exact hb.2
  case fb => have := hb.1; omega
  case fc => exact set5_other w2 gN b (by have := hb.1; omega) _ _ _ _ _ _ _ _
  · unfold set5
    rw [row_set (row_set (row_set (row_set (row_set (h2.row hrow) _ _) _ _) _ _) _ _) _ _]
    rfl

theorem srt (xs : Array Value) (i j : Nat) (a b : Value) (h : j < i) : (xs.setIfInBounds i a).setIfInBounds j b = (xs.setIfInBounds j b).setIfInBounds i a := Array.setIfInBounds_comm _ _ (by omega)

/-- Nine slots of a frame set, in their order. -/
def chain9 (B : Array Value) (i k : Nat) (pn e x1 x2 x3 x4 x5 x6 x7 : Value) : Array Value :=
  ((((((((B.setIfInBounds i pn).setIfInBounds (i + 1) e).setIfInBounds k x1).setIfInBounds (k + 1) x2).setIfInBounds (k + 2) x3).setIfInBounds (k + 3) x4).setIfInBounds (k + 4) x5).setIfInBounds (k + 5) x6).setIfInBounds (k + 6) x7

/-- What a region leaves: nine slots set, nothing else of the frame. -/
def Nine (B : Array Value) (i k : Nat) (R : Value → Value → World → Prop) : Exit → Act → World → Prop
  | .normal, a', w' => a'.defers = [] ∧ ∃ pn e x1 x2 x3 x4 x5 x6 x7, R pn e w' ∧ a'.tmps = chain9 B i k pn e x1 x2 x3 x4 x5 x6 x7
  | _, _, _ => False

theorem chain_abs {P : Program} {c : Code} {Q : Exit → Act → World → Prop} {A : Array Value} {w : World} (i k : Nat) (R : Value → Value → World → Prop)
    (h1 : ∀ B : Array Value, B = A → c.wp P (Nine B i k R) ⟨B, []⟩ w)
    (h2 : ∀ pn e x1 x2 x3 x4 x5 x6 x7 w', R pn e w' → Q .normal ⟨chain9 A i k pn e x1 x2 x3 x4 x5 x6 x7, []⟩ w') : c.wp P Q ⟨A, []⟩ w := by
  refine Code.wp_mono ?_ (h1 A rfl)
  intro e a' w' h
  cases e with
  | normal =>
    obtain ⟨hd, pn, e, x1, x2, x3, x4, x5, x6, x7, hR, ht⟩ := h
    have := h2 pn e x1 x2 x3 x4 x5 x6 x7 w' hR
    rw [← ht] at this
    have ha : a' = ⟨a'.tmps, []⟩ := by rw [← hd]
    rw [ha]
    exact this
  | exit _ => exact h.elim
  | goto _ => exact h.elim
  | ret => exact h.elim
  | panic _ => exact h.elim
  | outgrown => exact h.elim

theorem frame_abs {P : Program} {c : Code} {Q : Exit → Act → World → Prop} {a : Act} {w : World} (h : ∀ A : Array Value, A = a.tmps → Code.wp P c Q ⟨A, a.defers⟩ w) : Code.wp P c Q a w := h _ rfl

theorem at_eq {A : Array Value} {i : Nat} {v : Value} (h : A[i]? = some v) (hi : i < A.size) : A[i] = v := by
  rw [Array.getElem?_eq_getElem hi] at h
  exact Option.some.inj h

theorem mask15 (a : Int) : ∃ n : Nat, bits .and .i64 a 15 = n ∧ n ≤ 15 := by
  refine ⟨(BitVec.ofInt 64 a &&& BitVec.ofInt 64 15).toNat, ?_, ?_⟩
  · have hl : (BitVec.ofInt 64 a &&& BitVec.ofInt 64 15).toNat ≤ 15 := by
      rw [BitVec.toNat_and]; exact Nat.and_le_right
    show IntKind.wrap .i64 ((BitVec.ofInt 64 a &&& BitVec.ofInt 64 15).toNat : Int) = _
    generalize (BitVec.ofInt 64 a &&& BitVec.ofInt 64 15).toNat = n at hl
    rw [IntKind.wrap_i64]
    omega
  · rw [BitVec.toNat_and]; exact Nat.and_le_right

theorem o17_0 (A : Array Value) (pn e x1 x2 x3 x4 x5 x6 x7 : Value) : ((((((((A.setIfInBounds 149 x3).setIfInBounds 148 x2).setIfInBounds 150 x4).setIfInBounds 151 x5).setIfInBounds 147 x1).setIfInBounds 152 x6).setIfInBounds 153 x7).setIfInBounds 21 pn).setIfInBounds 22 e = chain9 A 21 147 pn e x1 x2 x3 x4 x5 x6 x7 := by
  show _ = (((((((((A.setIfInBounds 21 pn).setIfInBounds 22 e).setIfInBounds 147 x1).setIfInBounds 148 x2).setIfInBounds 149 x3).setIfInBounds 150 x4).setIfInBounds 151 x5).setIfInBounds 152 x6).setIfInBounds 153 x7)
  rw [srt _ 149 148 _ _ (by decide), srt _ 151 147 _ _ (by decide), srt _ 150 147 _ _ (by decide), srt _ 149 147 _ _ (by decide), srt _ 148 147 _ _ (by decide), srt _ 153 21 _ _ (by decide), srt _ 152 21 _ _ (by decide), srt _ 151 21 _ _ (by decide), srt _ 150 21 _ _ (by decide), srt _ 149 21 _ _ (by decide), srt _ 148 21 _ _ (by decide), srt _ 147 21 _ _ (by decide), srt _ 153 22 _ _ (by decide), srt _ 152 22 _ _ (by decide), srt _ 151 22 _ _ (by decide), srt _ 150 22 _ _ (by decide), srt _ 149 22 _ _ (by decide), srt _ 148 22 _ _ (by decide), srt _ 147 22 _ _ (by decide)]
theorem o17_1 (A : Array Value) (pn e x1 x2 x3 x4 x5 x6 x7 : Value) : ((((((((A.setIfInBounds 149 x3).setIfInBounds 148 x2).setIfInBounds 150 x4).setIfInBounds 21 pn).setIfInBounds 151 x5).setIfInBounds 147 x1).setIfInBounds 152 x6).setIfInBounds 153 x7).setIfInBounds 22 e = chain9 A 21 147 pn e x1 x2 x3 x4 x5 x6 x7 := by
  show _ = (((((((((A.setIfInBounds 21 pn).setIfInBounds 22 e).setIfInBounds 147 x1).setIfInBounds 148 x2).setIfInBounds 149 x3).setIfInBounds 150 x4).setIfInBounds 151 x5).setIfInBounds 152 x6).setIfInBounds 153 x7)
  rw [srt _ 149 148 _ _ (by decide), srt _ 150 21 _ _ (by decide), srt _ 149 21 _ _ (by decide), srt _ 148 21 _ _ (by decide), srt _ 151 147 _ _ (by decide), srt _ 150 147 _ _ (by decide), srt _ 149 147 _ _ (by decide), srt _ 148 147 _ _ (by decide), srt _ 153 22 _ _ (by decide), srt _ 152 22 _ _ (by decide), srt _ 151 22 _ _ (by decide), srt _ 150 22 _ _ (by decide), srt _ 149 22 _ _ (by decide), srt _ 148 22 _ _ (by decide), srt _ 147 22 _ _ (by decide)]
theorem o17_2 (A : Array Value) (pn e x1 x2 x3 x4 x5 x6 x7 : Value) : ((((((((A.setIfInBounds 149 x3).setIfInBounds 148 x2).setIfInBounds 21 pn).setIfInBounds 150 x4).setIfInBounds 151 x5).setIfInBounds 147 x1).setIfInBounds 152 x6).setIfInBounds 153 x7).setIfInBounds 22 e = chain9 A 21 147 pn e x1 x2 x3 x4 x5 x6 x7 := by
  show _ = (((((((((A.setIfInBounds 21 pn).setIfInBounds 22 e).setIfInBounds 147 x1).setIfInBounds 148 x2).setIfInBounds 149 x3).setIfInBounds 150 x4).setIfInBounds 151 x5).setIfInBounds 152 x6).setIfInBounds 153 x7)
  rw [srt _ 149 148 _ _ (by decide), srt _ 149 21 _ _ (by decide), srt _ 148 21 _ _ (by decide), srt _ 151 147 _ _ (by decide), srt _ 150 147 _ _ (by decide), srt _ 149 147 _ _ (by decide), srt _ 148 147 _ _ (by decide), srt _ 153 22 _ _ (by decide), srt _ 152 22 _ _ (by decide), srt _ 151 22 _ _ (by decide), srt _ 150 22 _ _ (by decide), srt _ 149 22 _ _ (by decide), srt _ 148 22 _ _ (by decide), srt _ 147 22 _ _ (by decide)]
theorem o17_3 (A : Array Value) (pn e x1 x2 x3 x4 x5 x6 x7 : Value) : ((((((((A.setIfInBounds 149 x3).setIfInBounds 150 x4).setIfInBounds 148 x2).setIfInBounds 151 x5).setIfInBounds 147 x1).setIfInBounds 152 x6).setIfInBounds 153 x7).setIfInBounds 21 pn).setIfInBounds 22 e = chain9 A 21 147 pn e x1 x2 x3 x4 x5 x6 x7 := by
  show _ = (((((((((A.setIfInBounds 21 pn).setIfInBounds 22 e).setIfInBounds 147 x1).setIfInBounds 148 x2).setIfInBounds 149 x3).setIfInBounds 150 x4).setIfInBounds 151 x5).setIfInBounds 152 x6).setIfInBounds 153 x7)
  rw [srt _ 150 148 _ _ (by decide), srt _ 149 148 _ _ (by decide), srt _ 151 147 _ _ (by decide), srt _ 150 147 _ _ (by decide), srt _ 149 147 _ _ (by decide), srt _ 148 147 _ _ (by decide), srt _ 153 21 _ _ (by decide), srt _ 152 21 _ _ (by decide), srt _ 151 21 _ _ (by decide), srt _ 150 21 _ _ (by decide), srt _ 149 21 _ _ (by decide), srt _ 148 21 _ _ (by decide), srt _ 147 21 _ _ (by decide), srt _ 153 22 _ _ (by decide), srt _ 152 22 _ _ (by decide), srt _ 151 22 _ _ (by decide), srt _ 150 22 _ _ (by decide), srt _ 149 22 _ _ (by decide), srt _ 148 22 _ _ (by decide), srt _ 147 22 _ _ (by decide)]
theorem o17_4 (A : Array Value) (pn e x1 x2 x3 x4 x5 x6 x7 : Value) : ((((((((A.setIfInBounds 149 x3).setIfInBounds 150 x4).setIfInBounds 148 x2).setIfInBounds 21 pn).setIfInBounds 151 x5).setIfInBounds 147 x1).setIfInBounds 152 x6).setIfInBounds 153 x7).setIfInBounds 22 e = chain9 A 21 147 pn e x1 x2 x3 x4 x5 x6 x7 := by
  show _ = (((((((((A.setIfInBounds 21 pn).setIfInBounds 22 e).setIfInBounds 147 x1).setIfInBounds 148 x2).setIfInBounds 149 x3).setIfInBounds 150 x4).setIfInBounds 151 x5).setIfInBounds 152 x6).setIfInBounds 153 x7)
  rw [srt _ 150 148 _ _ (by decide), srt _ 149 148 _ _ (by decide), srt _ 150 21 _ _ (by decide), srt _ 149 21 _ _ (by decide), srt _ 148 21 _ _ (by decide), srt _ 151 147 _ _ (by decide), srt _ 150 147 _ _ (by decide), srt _ 149 147 _ _ (by decide), srt _ 148 147 _ _ (by decide), srt _ 153 22 _ _ (by decide), srt _ 152 22 _ _ (by decide), srt _ 151 22 _ _ (by decide), srt _ 150 22 _ _ (by decide), srt _ 149 22 _ _ (by decide), srt _ 148 22 _ _ (by decide), srt _ 147 22 _ _ (by decide)]
theorem o17_5 (A : Array Value) (pn e x1 x2 x3 x4 x5 x6 x7 : Value) : ((((((((A.setIfInBounds 149 x3).setIfInBounds 150 x4).setIfInBounds 21 pn).setIfInBounds 148 x2).setIfInBounds 151 x5).setIfInBounds 147 x1).setIfInBounds 152 x6).setIfInBounds 153 x7).setIfInBounds 22 e = chain9 A 21 147 pn e x1 x2 x3 x4 x5 x6 x7 := by
  show _ = (((((((((A.setIfInBounds 21 pn).setIfInBounds 22 e).setIfInBounds 147 x1).setIfInBounds 148 x2).setIfInBounds 149 x3).setIfInBounds 150 x4).setIfInBounds 151 x5).setIfInBounds 152 x6).setIfInBounds 153 x7)
  rw [srt _ 150 21 _ _ (by decide), srt _ 149 21 _ _ (by decide), srt _ 150 148 _ _ (by decide), srt _ 149 148 _ _ (by decide), srt _ 151 147 _ _ (by decide), srt _ 150 147 _ _ (by decide), srt _ 149 147 _ _ (by decide), srt _ 148 147 _ _ (by decide), srt _ 153 22 _ _ (by decide), srt _ 152 22 _ _ (by decide), srt _ 151 22 _ _ (by decide), srt _ 150 22 _ _ (by decide), srt _ 149 22 _ _ (by decide), srt _ 148 22 _ _ (by decide), srt _ 147 22 _ _ (by decide)]
theorem o17_6 (A : Array Value) (pn e x1 x2 x3 x4 x5 x6 x7 : Value) : ((((((((A.setIfInBounds 149 x3).setIfInBounds 21 pn).setIfInBounds 148 x2).setIfInBounds 150 x4).setIfInBounds 151 x5).setIfInBounds 147 x1).setIfInBounds 152 x6).setIfInBounds 153 x7).setIfInBounds 22 e = chain9 A 21 147 pn e x1 x2 x3 x4 x5 x6 x7 := by
  show _ = (((((((((A.setIfInBounds 21 pn).setIfInBounds 22 e).setIfInBounds 147 x1).setIfInBounds 148 x2).setIfInBounds 149 x3).setIfInBounds 150 x4).setIfInBounds 151 x5).setIfInBounds 152 x6).setIfInBounds 153 x7)
  rw [srt _ 149 21 _ _ (by decide), srt _ 149 148 _ _ (by decide), srt _ 151 147 _ _ (by decide), srt _ 150 147 _ _ (by decide), srt _ 149 147 _ _ (by decide), srt _ 148 147 _ _ (by decide), srt _ 153 22 _ _ (by decide), srt _ 152 22 _ _ (by decide), srt _ 151 22 _ _ (by decide), srt _ 150 22 _ _ (by decide), srt _ 149 22 _ _ (by decide), srt _ 148 22 _ _ (by decide), srt _ 147 22 _ _ (by decide)]
theorem o17_7 (A : Array Value) (pn e x1 x2 x3 x4 x5 x6 x7 : Value) : ((((((((A.setIfInBounds 149 x3).setIfInBounds 21 pn).setIfInBounds 150 x4).setIfInBounds 148 x2).setIfInBounds 151 x5).setIfInBounds 147 x1).setIfInBounds 152 x6).setIfInBounds 153 x7).setIfInBounds 22 e = chain9 A 21 147 pn e x1 x2 x3 x4 x5 x6 x7 := by
  show _ = (((((((((A.setIfInBounds 21 pn).setIfInBounds 22 e).setIfInBounds 147 x1).setIfInBounds 148 x2).setIfInBounds 149 x3).setIfInBounds 150 x4).setIfInBounds 151 x5).setIfInBounds 152 x6).setIfInBounds 153 x7)
  rw [srt _ 149 21 _ _ (by decide), srt _ 150 148 _ _ (by decide), srt _ 149 148 _ _ (by decide), srt _ 151 147 _ _ (by decide), srt _ 150 147 _ _ (by decide), srt _ 149 147 _ _ (by decide), srt _ 148 147 _ _ (by decide), srt _ 153 22 _ _ (by decide), srt _ 152 22 _ _ (by decide), srt _ 151 22 _ _ (by decide), srt _ 150 22 _ _ (by decide), srt _ 149 22 _ _ (by decide), srt _ 148 22 _ _ (by decide), srt _ 147 22 _ _ (by decide)]
theorem o18_0 (A : Array Value) (pn e x1 x2 x3 x4 x5 x6 x7 : Value) : ((((((((A.setIfInBounds 156 x3).setIfInBounds 155 x2).setIfInBounds 157 x4).setIfInBounds 158 x5).setIfInBounds 154 x1).setIfInBounds 159 x6).setIfInBounds 160 x7).setIfInBounds 23 pn).setIfInBounds 24 e = chain9 A 23 154 pn e x1 x2 x3 x4 x5 x6 x7 := by
  show _ = (((((((((A.setIfInBounds 23 pn).setIfInBounds 24 e).setIfInBounds 154 x1).setIfInBounds 155 x2).setIfInBounds 156 x3).setIfInBounds 157 x4).setIfInBounds 158 x5).setIfInBounds 159 x6).setIfInBounds 160 x7)
  rw [srt _ 156 155 _ _ (by decide), srt _ 158 154 _ _ (by decide), srt _ 157 154 _ _ (by decide), srt _ 156 154 _ _ (by decide), srt _ 155 154 _ _ (by decide), srt _ 160 23 _ _ (by decide), srt _ 159 23 _ _ (by decide), srt _ 158 23 _ _ (by decide), srt _ 157 23 _ _ (by decide), srt _ 156 23 _ _ (by decide), srt _ 155 23 _ _ (by decide), srt _ 154 23 _ _ (by decide), srt _ 160 24 _ _ (by decide), srt _ 159 24 _ _ (by decide), srt _ 158 24 _ _ (by decide), srt _ 157 24 _ _ (by decide), srt _ 156 24 _ _ (by decide), srt _ 155 24 _ _ (by decide), srt _ 154 24 _ _ (by decide)]
theorem o18_1 (A : Array Value) (pn e x1 x2 x3 x4 x5 x6 x7 : Value) : ((((((((A.setIfInBounds 156 x3).setIfInBounds 155 x2).setIfInBounds 157 x4).setIfInBounds 23 pn).setIfInBounds 158 x5).setIfInBounds 154 x1).setIfInBounds 159 x6).setIfInBounds 160 x7).setIfInBounds 24 e = chain9 A 23 154 pn e x1 x2 x3 x4 x5 x6 x7 := by
  show _ = (((((((((A.setIfInBounds 23 pn).setIfInBounds 24 e).setIfInBounds 154 x1).setIfInBounds 155 x2).setIfInBounds 156 x3).setIfInBounds 157 x4).setIfInBounds 158 x5).setIfInBounds 159 x6).setIfInBounds 160 x7)
  rw [srt _ 156 155 _ _ (by decide), srt _ 157 23 _ _ (by decide), srt _ 156 23 _ _ (by decide), srt _ 155 23 _ _ (by decide), srt _ 158 154 _ _ (by decide), srt _ 157 154 _ _ (by decide), srt _ 156 154 _ _ (by decide), srt _ 155 154 _ _ (by decide), srt _ 160 24 _ _ (by decide), srt _ 159 24 _ _ (by decide), srt _ 158 24 _ _ (by decide), srt _ 157 24 _ _ (by decide), srt _ 156 24 _ _ (by decide), srt _ 155 24 _ _ (by decide), srt _ 154 24 _ _ (by decide)]
theorem o18_2 (A : Array Value) (pn e x1 x2 x3 x4 x5 x6 x7 : Value) : ((((((((A.setIfInBounds 156 x3).setIfInBounds 155 x2).setIfInBounds 23 pn).setIfInBounds 157 x4).setIfInBounds 158 x5).setIfInBounds 154 x1).setIfInBounds 159 x6).setIfInBounds 160 x7).setIfInBounds 24 e = chain9 A 23 154 pn e x1 x2 x3 x4 x5 x6 x7 := by
  show _ = (((((((((A.setIfInBounds 23 pn).setIfInBounds 24 e).setIfInBounds 154 x1).setIfInBounds 155 x2).setIfInBounds 156 x3).setIfInBounds 157 x4).setIfInBounds 158 x5).setIfInBounds 159 x6).setIfInBounds 160 x7)
  rw [srt _ 156 155 _ _ (by decide), srt _ 156 23 _ _ (by decide), srt _ 155 23 _ _ (by decide), srt _ 158 154 _ _ (by decide), srt _ 157 154 _ _ (by decide), srt _ 156 154 _ _ (by decide), srt _ 155 154 _ _ (by decide), srt _ 160 24 _ _ (by decide), srt _ 159 24 _ _ (by decide), srt _ 158 24 _ _ (by decide), srt _ 157 24 _ _ (by decide), srt _ 156 24 _ _ (by decide), srt _ 155 24 _ _ (by decide), srt _ 154 24 _ _ (by decide)]
theorem o18_3 (A : Array Value) (pn e x1 x2 x3 x4 x5 x6 x7 : Value) : ((((((((A.setIfInBounds 156 x3).setIfInBounds 157 x4).setIfInBounds 155 x2).setIfInBounds 158 x5).setIfInBounds 154 x1).setIfInBounds 159 x6).setIfInBounds 160 x7).setIfInBounds 23 pn).setIfInBounds 24 e = chain9 A 23 154 pn e x1 x2 x3 x4 x5 x6 x7 := by
  show _ = (((((((((A.setIfInBounds 23 pn).setIfInBounds 24 e).setIfInBounds 154 x1).setIfInBounds 155 x2).setIfInBounds 156 x3).setIfInBounds 157 x4).setIfInBounds 158 x5).setIfInBounds 159 x6).setIfInBounds 160 x7)
  rw [srt _ 157 155 _ _ (by decide), srt _ 156 155 _ _ (by decide), srt _ 158 154 _ _ (by decide), srt _ 157 154 _ _ (by decide), srt _ 156 154 _ _ (by decide), srt _ 155 154 _ _ (by decide), srt _ 160 23 _ _ (by decide), srt _ 159 23 _ _ (by decide), srt _ 158 23 _ _ (by decide), srt _ 157 23 _ _ (by decide), srt _ 156 23 _ _ (by decide), srt _ 155 23 _ _ (by decide), srt _ 154 23 _ _ (by decide), srt _ 160 24 _ _ (by decide), srt _ 159 24 _ _ (by decide), srt _ 158 24 _ _ (by decide), srt _ 157 24 _ _ (by decide), srt _ 156 24 _ _ (by decide), srt _ 155 24 _ _ (by decide), srt _ 154 24 _ _ (by decide)]
theorem o18_4 (A : Array Value) (pn e x1 x2 x3 x4 x5 x6 x7 : Value) : ((((((((A.setIfInBounds 156 x3).setIfInBounds 157 x4).setIfInBounds 155 x2).setIfInBounds 23 pn).setIfInBounds 158 x5).setIfInBounds 154 x1).setIfInBounds 159 x6).setIfInBounds 160 x7).setIfInBounds 24 e = chain9 A 23 154 pn e x1 x2 x3 x4 x5 x6 x7 := by
  show _ = (((((((((A.setIfInBounds 23 pn).setIfInBounds 24 e).setIfInBounds 154 x1).setIfInBounds 155 x2).setIfInBounds 156 x3).setIfInBounds 157 x4).setIfInBounds 158 x5).setIfInBounds 159 x6).setIfInBounds 160 x7)
  rw [srt _ 157 155 _ _ (by decide), srt _ 156 155 _ _ (by decide), srt _ 157 23 _ _ (by decide), srt _ 156 23 _ _ (by decide), srt _ 155 23 _ _ (by decide), srt _ 158 154 _ _ (by decide), srt _ 157 154 _ _ (by decide), srt _ 156 154 _ _ (by decide), srt _ 155 154 _ _ (by decide), srt _ 160 24 _ _ (by decide), srt _ 159 24 _ _ (by decide), srt _ 158 24 _ _ (by decide), srt _ 157 24 _ _ (by decide), srt _ 156 24 _ _ (by decide), srt _ 155 24 _ _ (by decide), srt _ 154 24 _ _ (by decide)]
theorem o18_5 (A : Array Value) (pn e x1 x2 x3 x4 x5 x6 x7 : Value) : ((((((((A.setIfInBounds 156 x3).setIfInBounds 157 x4).setIfInBounds 23 pn).setIfInBounds 155 x2).setIfInBounds 158 x5).setIfInBounds 154 x1).setIfInBounds 159 x6).setIfInBounds 160 x7).setIfInBounds 24 e = chain9 A 23 154 pn e x1 x2 x3 x4 x5 x6 x7 := by
  show _ = (((((((((A.setIfInBounds 23 pn).setIfInBounds 24 e).setIfInBounds 154 x1).setIfInBounds 155 x2).setIfInBounds 156 x3).setIfInBounds 157 x4).setIfInBounds 158 x5).setIfInBounds 159 x6).setIfInBounds 160 x7)
  rw [srt _ 157 23 _ _ (by decide), srt _ 156 23 _ _ (by decide), srt _ 157 155 _ _ (by decide), srt _ 156 155 _ _ (by decide), srt _ 158 154 _ _ (by decide), srt _ 157 154 _ _ (by decide), srt _ 156 154 _ _ (by decide), srt _ 155 154 _ _ (by decide), srt _ 160 24 _ _ (by decide), srt _ 159 24 _ _ (by decide), srt _ 158 24 _ _ (by decide), srt _ 157 24 _ _ (by decide), srt _ 156 24 _ _ (by decide), srt _ 155 24 _ _ (by decide), srt _ 154 24 _ _ (by decide)]
theorem o18_6 (A : Array Value) (pn e x1 x2 x3 x4 x5 x6 x7 : Value) : ((((((((A.setIfInBounds 156 x3).setIfInBounds 23 pn).setIfInBounds 155 x2).setIfInBounds 157 x4).setIfInBounds 158 x5).setIfInBounds 154 x1).setIfInBounds 159 x6).setIfInBounds 160 x7).setIfInBounds 24 e = chain9 A 23 154 pn e x1 x2 x3 x4 x5 x6 x7 := by
  show _ = (((((((((A.setIfInBounds 23 pn).setIfInBounds 24 e).setIfInBounds 154 x1).setIfInBounds 155 x2).setIfInBounds 156 x3).setIfInBounds 157 x4).setIfInBounds 158 x5).setIfInBounds 159 x6).setIfInBounds 160 x7)
  rw [srt _ 156 23 _ _ (by decide), srt _ 156 155 _ _ (by decide), srt _ 158 154 _ _ (by decide), srt _ 157 154 _ _ (by decide), srt _ 156 154 _ _ (by decide), srt _ 155 154 _ _ (by decide), srt _ 160 24 _ _ (by decide), srt _ 159 24 _ _ (by decide), srt _ 158 24 _ _ (by decide), srt _ 157 24 _ _ (by decide), srt _ 156 24 _ _ (by decide), srt _ 155 24 _ _ (by decide), srt _ 154 24 _ _ (by decide)]
theorem o18_7 (A : Array Value) (pn e x1 x2 x3 x4 x5 x6 x7 : Value) : ((((((((A.setIfInBounds 156 x3).setIfInBounds 23 pn).setIfInBounds 157 x4).setIfInBounds 155 x2).setIfInBounds 158 x5).setIfInBounds 154 x1).setIfInBounds 159 x6).setIfInBounds 160 x7).setIfInBounds 24 e = chain9 A 23 154 pn e x1 x2 x3 x4 x5 x6 x7 := by
  show _ = (((((((((A.setIfInBounds 23 pn).setIfInBounds 24 e).setIfInBounds 154 x1).setIfInBounds 155 x2).setIfInBounds 156 x3).setIfInBounds 157 x4).setIfInBounds 158 x5).setIfInBounds 159 x6).setIfInBounds 160 x7)
  rw [srt _ 156 23 _ _ (by decide), srt _ 157 155 _ _ (by decide), srt _ 156 155 _ _ (by decide), srt _ 158 154 _ _ (by decide), srt _ 157 154 _ _ (by decide), srt _ 156 154 _ _ (by decide), srt _ 155 154 _ _ (by decide), srt _ 160 24 _ _ (by decide), srt _ 159 24 _ _ (by decide), srt _ 158 24 _ _ (by decide), srt _ 157 24 _ _ (by decide), srt _ 156 24 _ _ (by decide), srt _ 155 24 _ _ (by decide), srt _ 154 24 _ _ (by decide)]

/-- A region of a body. -/
def regionAt (n : Nat) : Code → Option Code
  | .region id ops b => if id = n then some (.region id ops b) else none
  | .seq a b => match regionAt n a with
    | some c => some c
    | none => regionAt n b
  | .loop c => regionAt n c
  | .block _ c => regionAt n c
  | .scope c => regionAt n c
  | .cond _ a b => match regionAt n a with
    | some c => some c
    | none => regionAt n b
  | _ => none

theorem Nine.mk {B : Array Value} {i k : Nat} {R : Value → Value → World → Prop} {a' : Act} {w' : World} (hd : a'.defers = []) (pn e x1 x2 x3 x4 x5 x6 x7 : Value) (hR : R pn e w') (ht : a'.tmps = chain9 B i k pn e x1 x2 x3 x4 x5 x6 x7) : Nine B i k R .normal a' w' :=
  ⟨hd, pn, e, x1, x2, x3, x4, x5, x6, x7, hR, ht⟩

/-- What the first region of a round leaves. -/
def Rel17 (wr : World) (j : Nat) (pn e : Value) (wx : World) : Prop := ∃ gN a2 c2, pn = .pointer (some ⟨gN, 0, none⟩) ∧ e = .int .i64 0 ∧ Nx wr wx gN j a2 c2

set_option maxHeartbeats 4000000 in
theorem region17 (A : Array Value) (wr : World) (g8 j : Nat) (ap : Option Addr) (cp : Nat) (hs : A.size = 199) (t19 : A[19]? = some (.pointer (some ⟨g8, 0, none⟩))) (t20 : A[20]? = some (.int .i64 (j : Int)))
    (L0 : Hd (Five wr g8 4 0 0 0 ⟨#[]⟩ ap j cp)) (hgw : g8 < wr.heap.size)
    (PU : Hd (∀ W, Ext wr W → Calls Try.prog 6 #[.int .i64 13, .agg #[.int .i64 4, .int .i64 0, .complex .f64 0 0, .string ⟨#[]⟩, .slice ap j cp], .agg #[.int .i64 1, .int .i64 (j : Int), .complex .f64 0 0, .string ⟨#[]⟩, .slice none 0 0]] W
      fun e w' => ∃ a2 c2, e = .returned (.tuple #[.agg #[.int .i64 4, .int .i64 0, .complex .f64 0 0, .string ⟨#[]⟩, .slice a2 (j + 1) c2], .int .i64 0]) ∧ RepL w' (Fresh W w') (ints (j + 1)) a2 ∧ j + 1 ≤ c2 ∧ Ext W w')) :
    Code.wp Try.prog ((Try.f3.body.bind (regionAt 17)).getD .skip) (Nine A 21 147 (Rel17 wr j)) ⟨A, []⟩ wr := by
  have g0 := (unhide L0).c0
  have g1 := (unhide L0).c1
  have g2 := (unhide L0).c2
  have g3 := (unhide L0).c3
  have g4 := (unhide L0).c4
  have u19 := at_eq t19 (by omega)
  have u20 := at_eq t20 (by omega)
  have DR : Hd (Ext wr wr.drew) := Ext.drew (Ext.refl _)
  clear t19 t20
  conv => arg 2; whnf
  go_region_law (first
    | (have U := unhide N1; refine step_call_three rfl 6 (.const (.int .i64 13)) (.tmp 148) (.tmp 150) 3 25 25 rfl _ _ _ (by simp [Act.eval, Act.put, hs, u19, u20]) (by simp [Act.eval, Act.put, hs, u19, u20]) (by simp [Act.eval, Act.put, hs, u19, u20]) (enterBinary _ _ _ _) (Calls.mono (unhide PU _ (unhide E1)) ?_); rintro e w2 ⟨a2, c2, rfl, hl2, hc2, hw⟩; have C2 := hide hc2; have RL2 := hide hl2; have E2 := hide hw; have fN := (unhide N1).on hw; have z0 := fN.c0; have z1 := fN.c1; have z2 := fN.c2; have z3 := fN.c3; have z4 := fN.c4; have zf := fN.fz; clear fN; clear hl2 hc2 hw U; refine ⟨_, rfl, ?_⟩)
    | (have U := unhide E1; refine step_call_three rfl 6 (.const (.int .i64 13)) (.tmp 148) (.tmp 150) 3 25 25 rfl _ _ _ (by simp [Act.eval, Act.put, hs, u19, u20]) (by simp [Act.eval, Act.put, hs, u19, u20]) (by simp [Act.eval, Act.put, hs, u19, u20]) (enterBinary _ _ _ _) (Calls.mono (unhide PU _ (unhide E1)) ?_); rintro e w2 ⟨a2, c2, rfl, hl2, hc2, hw⟩; have C2 := hide hc2; have RL2 := hide hl2; have E2 := hide hw; have K2 := hide True.intro; clear hl2 hc2 hw U; refine ⟨_, rfl, ?_⟩)
    | (have U := unhide E1; refine step_call_three rfl 6 (.const (.int .i64 13)) (.tmp 148) (.tmp 150) 3 25 25 rfl _ _ _ (by simp [Act.eval, Act.put, hs, u19, u20]) (by simp [Act.eval, Act.put, hs, u19, u20]) (by simp [Act.eval, Act.put, hs, u19, u20]) (enterBinary _ _ _ _) (Calls.mono (unhide PU _ ((unhide E1).trans (Ext.alloc _ _))) ?_); rintro e w2 ⟨a2, c2, rfl, hl2, hc2, hw⟩; have C2 := hide hc2; have RL2 := hide hl2; have E2 := hide hw; have fN := (Five.new w1 25 0 0 0 0 ⟨#[]⟩ none 0 0).on hw; have z0 := fN.c0; have z1 := fN.c1; have z2 := fN.c2; have z3 := fN.c3; have z4 := fN.c4; have zf := fN.fz; have ltN : w1.heap.size < w2.heap.size := World.block_lt_of_cell? w2 ⟨w1.heap.size, 0, none⟩ fN.c0; clear fN; clear hl2 hc2 hw U; refine ⟨_, rfl, ?_⟩)
    | (refine step_call_one rfl 5 (.tmp 149) 2 rfl _ (by simp [Act.eval, Act.put, hs, u19, u20]) (enterRInt _ _) (Calls.mono (rint_any (j : Int) _) ?_); rintro e w1 ⟨rfl, hw⟩; have E1 : Hd (Ext wr w1) := (unhide DR).trans hw; have K1 := hide True.intro; have ltG1 : g8 < w1.heap.size := Nat.lt_of_lt_of_le hgw (unhide E1).le; have fL := (unhide L0).on (unhide E1); have g0 := fL.c0; have g1 := fL.c1; have g2 := fL.c2; have g3 := fL.c3; have g4 := fL.c4; clear fL hw; refine ⟨_, rfl, ?_⟩)
    | (refine step_call_one rfl 5 (.tmp 149) 2 rfl _ (by simp [Act.eval, Act.put, hs, u19, u20]) (enterRInt _ _) (Calls.mono (rint_any (j : Int) _) ?_); rintro e w1 ⟨rfl, hw⟩; have E1 : Hd (Ext wr w1) := (Ext.drew (Ext.alloc _ _)).trans hw; have N1 := hide ((Five.new wr 25 0 0 0 0 ⟨#[]⟩ none 0 0).on ((Ext.drew (Ext.refl _)).trans hw)); have NR := hide (((Ext.drew (Ext.refl _)).trans hw).row (Go.heap_alloc_new wr (.cells #[.int .i64 0, .int .i64 0, .complex .f64 0 0, .string ⟨#[]⟩, .slice none 0 0] 25))); have ltG1 : g8 < w1.heap.size := Nat.lt_of_lt_of_le hgw (unhide E1).le; have fL := (unhide L0).on (unhide E1); have g0 := fL.c0; have g1 := fL.c1; have g2 := fL.c2; have g3 := fL.c3; have g4 := fL.c4; clear fL hw; refine ⟨_, rfl, ?_⟩))
  all_goals
    first
      | (have U := unhide K2; clear U; refine Nine.mk rfl (.pointer (some ⟨w2.heap.size, 0, none⟩)) (.int .i64 0) (.tuple #[.agg #[.int .i64 4, .int .i64 0, .complex .f64 0 0, .string ⟨#[]⟩, .slice a2 (j + 1) c2], .int .i64 0]) (.agg #[.int .i64 4, .int .i64 0, .complex .f64 0 0, .string ⟨#[]⟩, .slice ap j cp]) (.int .i64 (j : Int)) (.agg #[.int .i64 1, .int .i64 (j : Int), .complex .f64 0 0, .string ⟨#[]⟩, .slice none 0 0]) (.tuple #[.agg #[.int .i64 4, .int .i64 0, .complex .f64 0 0, .string ⟨#[]⟩, .slice a2 (j + 1) c2], .int .i64 0]) (.agg #[.int .i64 4, .int .i64 0, .complex .f64 0 0, .string ⟨#[]⟩, .slice a2 (j + 1) c2]) (.int .i64 0) ⟨w2.heap.size, a2, c2, rfl, rfl, Nx.fresh (unhide E1) (unhide E2) (unhide RL2) (unhide C2)⟩ ?_)
      | (have U := unhide N1; clear U; refine Nine.mk rfl (.pointer (some ⟨wr.heap.size, 0, none⟩)) (.int .i64 0) (.tuple #[.agg #[.int .i64 4, .int .i64 0, .complex .f64 0 0, .string ⟨#[]⟩, .slice a2 (j + 1) c2], .int .i64 0]) (.agg #[.int .i64 4, .int .i64 0, .complex .f64 0 0, .string ⟨#[]⟩, .slice ap j cp]) (.int .i64 (j : Int)) (.agg #[.int .i64 1, .int .i64 (j : Int), .complex .f64 0 0, .string ⟨#[]⟩, .slice none 0 0]) (.tuple #[.agg #[.int .i64 4, .int .i64 0, .complex .f64 0 0, .string ⟨#[]⟩, .slice a2 (j + 1) c2], .int .i64 0]) (.agg #[.int .i64 4, .int .i64 0, .complex .f64 0 0, .string ⟨#[]⟩, .slice a2 (j + 1) c2]) (.int .i64 0) ⟨wr.heap.size, a2, c2, rfl, rfl, Nx.set (unhide E1) (unhide E2) (Nat.le_refl _) (Array.getElem?_eq_some_iff.1 (unhide NR)).1 (unhide NR) (unhide RL2) (unhide C2)⟩ ?_)
      | (have U := ltN; clear U; refine Nine.mk rfl (.pointer (some ⟨w1.heap.size, 0, none⟩)) (.int .i64 0) (.tuple #[.agg #[.int .i64 4, .int .i64 0, .complex .f64 0 0, .string ⟨#[]⟩, .slice a2 (j + 1) c2], .int .i64 0]) (.agg #[.int .i64 4, .int .i64 0, .complex .f64 0 0, .string ⟨#[]⟩, .slice ap j cp]) (.int .i64 (j : Int)) (.agg #[.int .i64 1, .int .i64 (j : Int), .complex .f64 0 0, .string ⟨#[]⟩, .slice none 0 0]) (.tuple #[.agg #[.int .i64 4, .int .i64 0, .complex .f64 0 0, .string ⟨#[]⟩, .slice a2 (j + 1) c2], .int .i64 0]) (.agg #[.int .i64 4, .int .i64 0, .complex .f64 0 0, .string ⟨#[]⟩, .slice a2 (j + 1) c2]) (.int .i64 0) ⟨w1.heap.size, a2, c2, rfl, rfl, Nx.set ((unhide E1).trans (Ext.alloc _ _)) (unhide E2) (unhide E1).le (by rw [heap_alloc_size]; omega) (Go.heap_alloc_new w1 _) (unhide RL2) (unhide C2)⟩ ?_)
    go_simp
    first
      | rw [o17_0]
      | rw [o17_1]
      | rw [o17_2]
      | rw [o17_3]
      | rw [o17_4]
      | rw [o17_5]
      | rw [o17_6]
      | rw [o17_7]



/-- What is known of the variable that holds the last one, wherever it was made. -/
structure Lx (wr wx : World) (gL j : Nat) (a3 : Option Addr) (c3 : Nat) : Prop where
  ext : Ext wr wx
  lo : wr.heap.size ≤ gL
  five : Five wx gL 1 j 0 0 ⟨#[]⟩ a3 0 c3

theorem Lx.fresh {wr w1 w2 : World} {j : Nat} {a3 : Option Addr} {c3 : Nat} (h1 : Ext wr w1) (h2 : Ext w1 w2) :
    Lx wr (w2.alloc (.cells #[.int .i64 1, .int .i64 (j : Int), .complex .f64 0 0, .string ⟨#[]⟩, .slice a3 0 c3] 25)) w2.heap.size j a3 c3 :=
  ⟨(h1.trans h2).trans (Ext.alloc _ _), (h1.trans h2).le, Five.new _ _ _ _ _ _ _ _ _ _⟩

theorem Lx.set {wr w1 w2 : World} {gL j : Nat} {a3 : Option Addr} {c3 : Nat} (h1 : Ext wr w1) (h2 : Ext w1 w2) (lo : wr.heap.size ≤ gL) (hg : gL < w1.heap.size) (hrow : w1.heap[gL]? = some (.cells #[.int .i64 0, .int .i64 0, .complex .f64 0 0, .string ⟨#[]⟩, .slice none 0 0] 25 (0, 0))) :
    Lx wr (set5 w2 gL 1 j 0 0 ⟨#[]⟩ a3 0 c3) gL j a3 c3 := by
  refine ⟨set5_ext (h1.trans h2) gL lo _ _ _ _ _ _ _ _, lo, Five.ofRow (t := 25) ?_⟩
  unfold set5
  rw [row_set (row_set (row_set (row_set (row_set (h2.row hrow) _ _) _ _) _ _) _ _) _ _]
  rfl

def Rel18 (wr : World) (j : Nat) (pn e : Value) (wx : World) : Prop := ∃ gL a3 c3, pn = .pointer (some ⟨gL, 0, none⟩) ∧ e = .int .i64 0 ∧ Lx wr wx gL j a3 c3

set_option maxHeartbeats 4000000 in
theorem region18 (A : Array Value) (wr : World) (gN j : Nat) (a2 : Option Addr) (c2 : Nat) (hs : A.size = 199) (t21 : A[21]? = some (.pointer (some ⟨gN, 0, none⟩))) (t20 : A[20]? = some (.int .i64 (j : Int)))
    (L0 : Hd (Five wr gN 4 0 0 0 ⟨#[]⟩ a2 (j + 1) c2)) (hgw : gN < wr.heap.size)
    (GE : Hd (∀ W, Ext wr W → Calls Try.prog 6 #[.int .i64 12, .agg #[.int .i64 4, .int .i64 0, .complex .f64 0 0, .string ⟨#[]⟩, .slice a2 (j + 1) c2], .agg #[.int .i64 1, .int .i64 (j : Int), .complex .f64 0 0, .string ⟨#[]⟩, .slice none 0 0]] W
      fun e w' => ∃ a3 c3, e = .returned (.tuple #[.agg #[.int .i64 1, .int .i64 (j : Int), .complex .f64 0 0, .string ⟨#[]⟩, .slice a3 0 c3], .int .i64 0]) ∧ Ext W w')) :
    Code.wp Try.prog ((Try.f3.body.bind (regionAt 18)).getD .skip) (Nine A 23 154 (Rel18 wr j)) ⟨A, []⟩ wr := by
  have g0 := (unhide L0).c0
  have g1 := (unhide L0).c1
  have g2 := (unhide L0).c2
  have g3 := (unhide L0).c3
  have g4 := (unhide L0).c4
  have u21 := at_eq t21 (by omega)
  have u20 := at_eq t20 (by omega)
  have DR : Hd (Ext wr wr.drew) := Ext.drew (Ext.refl _)
  clear t21 t20
  conv => arg 2; whnf
  go_region_law (first
    | (have U := unhide N1; refine step_call_three rfl 6 (.const (.int .i64 12)) (.tmp 155) (.tmp 157) 3 25 25 rfl _ _ _ (by simp [Act.eval, Act.put, hs, u21, u20]) (by simp [Act.eval, Act.put, hs, u21, u20]) (by simp [Act.eval, Act.put, hs, u21, u20]) (enterBinary _ _ _ _) (Calls.mono (unhide GE _ (unhide E1)) ?_); rintro e w2 ⟨a3, c3, rfl, hw⟩; have E2 := hide hw; have fN := (unhide N1).on hw; have z0 := fN.c0; have z1 := fN.c1; have z2 := fN.c2; have z3 := fN.c3; have z4 := fN.c4; have zf := fN.fz; clear fN; clear hw U; refine ⟨_, rfl, ?_⟩)
    | (have U := unhide E1; refine step_call_three rfl 6 (.const (.int .i64 12)) (.tmp 155) (.tmp 157) 3 25 25 rfl _ _ _ (by simp [Act.eval, Act.put, hs, u21, u20]) (by simp [Act.eval, Act.put, hs, u21, u20]) (by simp [Act.eval, Act.put, hs, u21, u20]) (enterBinary _ _ _ _) (Calls.mono (unhide GE _ (unhide E1)) ?_); rintro e w2 ⟨a3, c3, rfl, hw⟩; have E2 := hide hw; have K2 := hide True.intro; clear hw U; refine ⟨_, rfl, ?_⟩)
    | (have U := unhide E1; refine step_call_three rfl 6 (.const (.int .i64 12)) (.tmp 155) (.tmp 157) 3 25 25 rfl _ _ _ (by simp [Act.eval, Act.put, hs, u21, u20]) (by simp [Act.eval, Act.put, hs, u21, u20]) (by simp [Act.eval, Act.put, hs, u21, u20]) (enterBinary _ _ _ _) (Calls.mono (unhide GE _ ((unhide E1).trans (Ext.alloc _ _))) ?_); rintro e w2 ⟨a3, c3, rfl, hw⟩; have E2 := hide hw; have fN := (Five.new w1 25 0 0 0 0 ⟨#[]⟩ none 0 0).on hw; have z0 := fN.c0; have z1 := fN.c1; have z2 := fN.c2; have z3 := fN.c3; have z4 := fN.c4; have zf := fN.fz; have ltN : w1.heap.size < w2.heap.size := World.block_lt_of_cell? w2 ⟨w1.heap.size, 0, none⟩ fN.c0; clear fN; clear hw U; refine ⟨_, rfl, ?_⟩)
    | (refine step_call_one rfl 5 (.tmp 156) 2 rfl _ (by simp [Act.eval, Act.put, hs, u21, u20]) (enterRInt _ _) (Calls.mono (rint_any (j : Int) _) ?_); rintro e w1 ⟨rfl, hw⟩; have E1 : Hd (Ext wr w1) := (unhide DR).trans hw; have K1 := hide True.intro; have ltG1 : gN < w1.heap.size := Nat.lt_of_lt_of_le hgw (unhide E1).le; have fL := (unhide L0).on (unhide E1); have g0 := fL.c0; have g1 := fL.c1; have g2 := fL.c2; have g3 := fL.c3; have g4 := fL.c4; clear fL hw; refine ⟨_, rfl, ?_⟩)
    | (refine step_call_one rfl 5 (.tmp 156) 2 rfl _ (by simp [Act.eval, Act.put, hs, u21, u20]) (enterRInt _ _) (Calls.mono (rint_any (j : Int) _) ?_); rintro e w1 ⟨rfl, hw⟩; have E1 : Hd (Ext wr w1) := (Ext.drew (Ext.alloc _ _)).trans hw; have N1 := hide ((Five.new wr 25 0 0 0 0 ⟨#[]⟩ none 0 0).on ((Ext.drew (Ext.refl _)).trans hw)); have NR := hide (((Ext.drew (Ext.refl _)).trans hw).row (Go.heap_alloc_new wr (.cells #[.int .i64 0, .int .i64 0, .complex .f64 0 0, .string ⟨#[]⟩, .slice none 0 0] 25))); have ltG1 : gN < w1.heap.size := Nat.lt_of_lt_of_le hgw (unhide E1).le; have fL := (unhide L0).on (unhide E1); have g0 := fL.c0; have g1 := fL.c1; have g2 := fL.c2; have g3 := fL.c3; have g4 := fL.c4; clear fL hw; refine ⟨_, rfl, ?_⟩))
  all_goals
    first
      | (have U := unhide K2; clear U; refine Nine.mk rfl (.pointer (some ⟨w2.heap.size, 0, none⟩)) (.int .i64 0) (.tuple #[.agg #[.int .i64 1, .int .i64 (j : Int), .complex .f64 0 0, .string ⟨#[]⟩, .slice a3 0 c3], .int .i64 0]) (.agg #[.int .i64 4, .int .i64 0, .complex .f64 0 0, .string ⟨#[]⟩, .slice a2 (j + 1) c2]) (.int .i64 (j : Int)) (.agg #[.int .i64 1, .int .i64 (j : Int), .complex .f64 0 0, .string ⟨#[]⟩, .slice none 0 0]) (.tuple #[.agg #[.int .i64 1, .int .i64 (j : Int), .complex .f64 0 0, .string ⟨#[]⟩, .slice a3 0 c3], .int .i64 0]) (.agg #[.int .i64 1, .int .i64 (j : Int), .complex .f64 0 0, .string ⟨#[]⟩, .slice a3 0 c3]) (.int .i64 0) ⟨w2.heap.size, a3, c3, rfl, rfl, Lx.fresh (unhide E1) (unhide E2)⟩ ?_)
      | (have U := unhide N1; clear U; refine Nine.mk rfl (.pointer (some ⟨wr.heap.size, 0, none⟩)) (.int .i64 0) (.tuple #[.agg #[.int .i64 1, .int .i64 (j : Int), .complex .f64 0 0, .string ⟨#[]⟩, .slice a3 0 c3], .int .i64 0]) (.agg #[.int .i64 4, .int .i64 0, .complex .f64 0 0, .string ⟨#[]⟩, .slice a2 (j + 1) c2]) (.int .i64 (j : Int)) (.agg #[.int .i64 1, .int .i64 (j : Int), .complex .f64 0 0, .string ⟨#[]⟩, .slice none 0 0]) (.tuple #[.agg #[.int .i64 1, .int .i64 (j : Int), .complex .f64 0 0, .string ⟨#[]⟩, .slice a3 0 c3], .int .i64 0]) (.agg #[.int .i64 1, .int .i64 (j : Int), .complex .f64 0 0, .string ⟨#[]⟩, .slice a3 0 c3]) (.int .i64 0) ⟨wr.heap.size, a3, c3, rfl, rfl, Lx.set (unhide E1) (unhide E2) (Nat.le_refl _) (Array.getElem?_eq_some_iff.1 (unhide NR)).1 (unhide NR)⟩ ?_)
      | (have U := ltN; clear U; refine Nine.mk rfl (.pointer (some ⟨w1.heap.size, 0, none⟩)) (.int .i64 0) (.tuple #[.agg #[.int .i64 1, .int .i64 (j : Int), .complex .f64 0 0, .string ⟨#[]⟩, .slice a3 0 c3], .int .i64 0]) (.agg #[.int .i64 4, .int .i64 0, .complex .f64 0 0, .string ⟨#[]⟩, .slice a2 (j + 1) c2]) (.int .i64 (j : Int)) (.agg #[.int .i64 1, .int .i64 (j : Int), .complex .f64 0 0, .string ⟨#[]⟩, .slice none 0 0]) (.tuple #[.agg #[.int .i64 1, .int .i64 (j : Int), .complex .f64 0 0, .string ⟨#[]⟩, .slice a3 0 c3], .int .i64 0]) (.agg #[.int .i64 1, .int .i64 (j : Int), .complex .f64 0 0, .string ⟨#[]⟩, .slice a3 0 c3]) (.int .i64 0) ⟨w1.heap.size, a3, c3, rfl, rfl, Lx.set ((unhide E1).trans (Ext.alloc _ _)) (unhide E2) (unhide E1).le (by rw [heap_alloc_size]; omega) (Go.heap_alloc_new w1 _)⟩ ?_)
    go_simp
    first
      | rw [o18_0]
      | rw [o18_1]
      | rw [o18_2]
      | rw [o18_3]
      | rw [o18_4]
      | rw [o18_5]
      | rw [o18_6]
      | rw [o18_7]

end Go.Proofs.Ytbkncdjmodeabaa
