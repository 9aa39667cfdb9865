/- slices.BinarySearchFunc over a row of numbers, with a function value that makes memory alone; cmp.Compare, cmp.Or of three. -/
import Derived.Test.YtjopfpchbakggaaCoI
import Derived.Shelf.Abstract
set_option linter.unusedSimpArgs false
set_option linter.unusedVariables false
set_option maxRecDepth 10000
namespace Go.Proofs.Ytjopfpchbakggaa
open Go.RowKit

/-- How many of the first meet p, up to the first that doesn't. -/
def bI (p : Nat → Bool) : List Nat → Nat
  | [] => 0
  | y :: r => if p y then bI p r + 1 else 0
theorem bI_le (p : Nat → Bool) : ∀ l : List Nat, bI p l ≤ l.length
  | [] => Nat.le_refl _
  | y :: r => by
    have := bI_le p r
    rw [bI]
    split <;> simp <;> omega
theorem bI_is (p : Nat → Bool) : ∀ (l : List Nat) (c : Nat), c ≤ l.length → (∀ t y, t < c → l[t]? = some y → p y = true) → (∀ y, l[c]? = some y → p y = false) → bI p l = c
  | [], c, h, _, _ => by simp at h; rw [h]; rfl
  | y :: r, 0, h, h1, h2 => by rw [bI, if_neg (by rw [h2 y rfl]; exact fun e => by cases e)]
  | y :: r, c + 1, h, h1, h2 => by rw [bI, if_pos (h1 0 y (by omega) rfl), bI_is p r c (by simpa using h) (fun t z ht hz => h1 (t + 1) z (by omega) (by simpa using hz)) (fun z hz => h2 z (by simpa using hz))]
theorem Bk.cellAt {w : World} {lo : Nat} {a : Option Addr} {c : Nat} {l : List Nat} (h : Bk w lo (.slice a l.length c) l) {j y : Nat} (hj : l[j]? = some y) : ∃ B off, a = some ⟨B, off, none⟩ ∧ w.cell? ⟨B, off + j, none⟩ = some (.int .i64 (y : Int)) := by
  obtain ⟨a', c', e, hnc, hcm, hb⟩ := h
  injection e with e1 e2 e3
  subst e1 e3
  have hl := (List.getElem?_eq_some_iff.1 hj).1
  rcases hb with ⟨_, h0⟩ | ⟨B, off, ys, rfl, hB, hg, hsz, hc⟩
  · omega
  · exact ⟨B, off, rfl, (cellOf hg _).trans (hc j y hj)⟩

def bB (cf : Nat → Int) (l : List Nat) : Bool := match l[bI (fun y => decide (cf y < 0)) l]? with | some y => decide (cf y = 0) | none => false
set_option maxHeartbeats 2000000 in
theorem bs_w (w : World) (lo : Nat) (v : Value) (l : List Nat) (x : Nat) (cf : Nat → Int) (g : FuncId) (cb : Array Value) (eg : ∀ args w, (callFunc g args).run Try.prog w = .ok (.enter g args) w) (hB : Bk w lo v l) (hl : l.length ≤ 1000000)
    (hcmp : ∀ W, Ext w W → ∀ y ∈ l, Calls Try.prog g (#[.int .i64 (y : Int), .int .i64 (x : Int)] ++ cb) W fun e w' => e = .returned (.int .i64 (cf y)) ∧ Ext W w')
    (hmono : ∀ (a b y z : Nat), a ≤ b → l[a]? = some y → l[b]? = some z → cf z < 0 → cf y < 0) :
    Calls Try.prog 22 #[v, .int .i64 (x : Int), .func (.func g) #[] cb] w fun e w' => e = .returned (.tuple #[.int .i64 (bI (fun y => decide (cf y < 0)) l : Nat), .bool (bB cf l)]) ∧ Ext w w' := by
  have HB := hide hB
  have HC := hide hcmp
  have HM := hide hmono
  obtain ⟨a, c, rfl, _, _, _⟩ := hB
  clear hcmp hmono
  go_enter Try.func22, Try.ntmps22
  go_wp2
  go_loopg [9, 10] l.length (fun kx s9 s10 wr => ∃ lo hi : Nat, s9 = .int .i64 lo ∧ s10 = .int .i64 hi ∧ lo ≤ hi ∧ hi ≤ l.length ∧ hi - lo ≤ kx ∧ Hd (Ext w wr) ∧
    Hd ((∀ (t y : Nat), t < lo → l[t]? = some y → cf y < 0) ∧ (∀ (t y : Nat), hi ≤ t → l[t]? = some y → 0 ≤ cf y)))
  case atStart => exact ⟨0, l.length, rfl, rfl, Nat.zero_le _, Nat.le_refl _, by omega, Ext.refl _, fun t y ht _ => absurd ht (Nat.not_lt_zero _), fun t y h1 h2 => by have := (List.getElem?_eq_some_iff.1 h2).1; omega⟩
  case round =>
    obtain ⟨lo1, hi, rfl, rfl, hlh, hin, hg, X, I⟩ := hrel
    by_cases hlt : lo1 < hi
    · obtain ⟨y, hy⟩ : ∃ y, l[(lo1 + hi) / 2]? = some y := ⟨_, List.getElem?_eq_getElem (by omega)⟩
      obtain ⟨B, off, rfl, cm⟩ := ((unhide HB).ext (unhide X)).cellAt hy
      have hc := unhide HC wr (unhide X) y (List.mem_of_getElem? hy)
      have HY := hide hy
      clear hy
      by_cases hyx : cf y < 0
      · go_wp2_with (go_at_fn g; refine hc.mono ?_; rintro e w' ⟨rfl, hx⟩; have X2 := hide ((unhide X).trans hx); clear hx)
        go_roundg (hi - ((lo1 + hi) / 2 + 1))
        case measure => omega
        case rel =>
          exact ⟨(lo1 + hi) / 2 + 1, hi, by rw [show ((lo1 : Int) + (hi : Int)) / 2 + 1 = (((lo1 + hi) / 2 + 1 : Nat) : Int) by omega], rfl, by omega, hin, Nat.le_refl _, X2, fun t z ht hz => unhide HM t ((lo1 + hi) / 2) z y (by omega) hz (unhide HY) hyx, (unhide I).2⟩
      · go_wp2_with (go_at_fn g; refine hc.mono ?_; rintro e w' ⟨rfl, hx⟩; have X2 := hide ((unhide X).trans hx); clear hx)
        go_roundg ((lo1 + hi) / 2 - lo1)
        case measure => omega
        case rel =>
          exact ⟨lo1, (lo1 + hi) / 2, rfl, by rw [show ((lo1 : Int) + (hi : Int)) / 2 = (((lo1 + hi) / 2 : Nat) : Int) by omega], by omega, by omega, Nat.le_refl _, X2, (unhide I).1, fun t z ht hz => Int.not_lt.1 fun h => by have := unhide HM ((lo1 + hi) / 2) t y z ht (unhide HY) hz h; omega⟩
    · obtain rfl : hi = lo1 := by omega
      have hc0 : bI (fun y => decide (cf y < 0)) l = hi := bI_is _ l hi hin (fun t y ht hy => decide_eq_true ((unhide I).1 t y ht hy)) (fun y hy => decide_eq_false (by have := (unhide I).2 hi y (Nat.le_refl _) hy; omega))
      have HC0 := hide hc0
      have HB0 : Hd (bB cf l = match l[hi]? with | some y => decide (cf y = 0) | none => false) := hide (by unfold bB; rw [hc0])
      clear hc0
      by_cases hn : hi < l.length
      · obtain ⟨y, hy⟩ : ∃ y, l[hi]? = some y := ⟨_, List.getElem?_eq_getElem hn⟩
        obtain ⟨B, off, rfl, cm⟩ := ((unhide HB).ext (unhide X)).cellAt hy
        have hc := unhide HC wr (unhide X) y (List.mem_of_getElem? hy)
        have HB1 : Hd (bB cf l = decide (cf y = 0)) := hide (by have h := unhide HB0; rw [hy] at h; exact h)
        clear hy
        by_cases hyx : cf y = 0
        · have HB2 : Hd (bB cf l = true) := hide (by rw [unhide HB1]; exact decide_eq_true hyx)
          go_wp2_with (go_at_fn g; refine hc.mono ?_; rintro e w' ⟨rfl, hx⟩; have X2 := hide ((unhide X).trans hx); clear hx)
          go_ret2
          exact ⟨by rw [unhide HC0, unhide HB2]; rfl, unhide X2⟩
        · have HB2 : Hd (bB cf l = (cf y == 0)) := hide (by rw [unhide HB1]; rfl)
          go_wp2_with (go_at_fn g; refine hc.mono ?_; rintro e w' ⟨rfl, hx⟩; have X2 := hide ((unhide X).trans hx); clear hx)
          go_ret2
          exact ⟨by rw [unhide HC0, unhide HB2]; rfl, unhide X2⟩
      · have HB2 : Hd (bB cf l = false) := hide (by have h := unhide HB0; rw [List.getElem?_eq_none (by omega)] at h; exact h)
        go_wp2
        go_ret2
        exact ⟨by rw [unhide HC0, unhide HB2]; rfl, unhide X⟩

theorem eg_cmp (args : Array Value) (w : World) : (callFunc 15 args).run Try.prog w = .ok (.enter 15 args) w := by kernel_rfl
theorem eg_key (args : Array Value) (w : World) : (callFunc 13 args).run Try.prog w = .ok (.enter 13 args) w := by kernel_rfl

end Go.Proofs.Ytjopfpchbakggaa
