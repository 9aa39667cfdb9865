/- Two trees, two programs that the document finds the same. -/
import Derived.Test.YtgkiihjakbnhcaaGreatDoorZc47
import Derived.Test.YtgkiihjakbnhcaaGreatDoorZc16
set_option linter.unusedSimpArgs false
set_option linter.unusedVariables false
set_option maxRecDepth 10000

namespace Go.Proofs.YtgkiihjakbnhcaaGreatDoor
open Go.RowKit

/-- A tree is found the same as itself by the document, wherever the two lie. -/
def RSameOf (p : PN) : Prop := ∀ (va vb : Value) (w : World), RepN w (InW w) p va → RepN w (InW w) p vb → Calls Tryz.prog 13 #[va, vb] w fun e w' => e = .returned (.bool true) ∧ Ext w w'

theorem enterRSame (v v' : Value) (w : World) : (callFunc 13 #[v, v']).run Tryz.prog w = .ok (.enter 13 #[v, v']) w := by kernel_rfl

set_option maxHeartbeats 1000000 in
theorem rsame_w : ∀ (f : Nat) (p : PN), bdN f p = true → RSameOf p := by
  intro f
  induction f with
  | zero => intro p h; cases h
  | succ f ih =>
    intro p h va vb w h1 h2
    obtain ⟨k, o, s, nn, l⟩ := p
    rw [bdN] at h
    simp only [Bool.and_eq_true, decide_eq_true_eq, List.all_eq_true] at h
    obtain ⟨⟨hlen, hs⟩, hall⟩ := h
    rw [RepN] at h1 h2
    obtain ⟨a, ca, rfl, _, hA⟩ := h1
    obtain ⟨b, cb, rfl, _, hB⟩ := h2
    have HS : Hd (∀ p ∈ l, RSameOf p) := fun p hp => ih p (hall p hp)
    have HA := hide hA
    have HB := hide hB
    have HX2 : Hd (∀ o1 o2 : Obj, Ext w ((w.alloc o1).alloc o2)) := fun o1 o2 => (Ext.alloc _ _).trans (Ext.alloc _ _)
    clear hA hB ih hall
    generalize hN : l.length = n at *
    have HR1 : Hd (∀ W, Ext ((w.alloc (nodW k o s nn a n ca)).alloc (nodW k o s nn b n cb)) W → W.heap[w.heap.size]? = some (nodW k o s nn a n ca) ∧ W.heap[w.heap.size + 1]? = some (nodW k o s nn b n cb)) := fun W x => by
      have e0 : ((w.alloc (nodW k o s nn a n ca)).alloc (nodW k o s nn b n cb)).heap[w.heap.size]? = some (nodW k o s nn a n ca) := ((Ext.alloc _ _).block _ (by rw [size_alloc]; omega)).trans (Go.heap_alloc_new w _)
      have e1 := Go.heap_alloc_new (w.alloc (nodW k o s nn a n ca)) (nodW k o s nn b n cb)
      rw [size_alloc] at e1
      exact ⟨(x.block _ (by rw [size_alloc, size_alloc]; omega)).trans e0, (x.block _ (by rw [size_alloc, size_alloc]; omega)).trans e1⟩
    go_enter Tryz.func13, Tryz.ntmps13
    go_wp2_with fail
    go_loopw [5] (fun t wr => ∃ (j : Nat), t = .int .i64 j ∧ j ≤ n ∧ Hd (Ext ((w.alloc (nodW k o s nn a n ca)).alloc (nodW k o s nn b n cb)) wr)) (fun t _ => n - (intOf t).toNat)
    case atStart => exact ⟨0, rfl, by omega, Ext.refl _⟩
    case round =>
      obtain ⟨j, rfl, hj, hX⟩ := hrel
      obtain ⟨R1, R2⟩ := unhide HR1 _ (unhide hX)
      have c4 := rowC R1 4 rfl
      have d4 := rowC R2 4 rfl
      clear R1 R2
      by_cases hlt : j < n
      · obtain ⟨p, hp⟩ : ∃ p, l[j]? = some p := ⟨_, List.getElem?_eq_getElem (by omega)⟩
        have hW := (unhide HX2 (nodW k o s nn a n ca) (nodW k o s nn b n cb)).trans (unhide hX)
        obtain ⟨b1, o1, x0, x1, x2, x3, x4, rfl, f1, r1, e0, e1, e2, e3, e4⟩ := repNL_at ((unhide HA).inw hW) j p hp
        obtain ⟨b2, o2, y0, y1, y2, y3, y4, rfl, f2, r2, g0, g1, g2, g3, g4⟩ := repNL_at ((unhide HB).inw hW) j p hp
        have HP := hide (fun (W : World) (k : Ext wr W) => unhide HS p (List.mem_of_getElem? hp) _ _ W (r1.inw k) (r2.inw k))
        clear r1 r2 f1 f2 hp hW
        go_wp2_with fail
        go_region_law (first
          | (refine step_call_two rfl 13 (.tmp 52) (.tmp 57) 28 28 rfl _ _ (by simp [Act.eval, Act.put]) (by simp [Act.eval, Act.put]) (enterRSame _ _ _) (Calls.mono (unhide HP _ ((Ext.refl _).drew)) ?_); rintro e w2 ⟨rfl, hw⟩; have X2 := hide (((unhide hX).trans ((Ext.refl _).drew)).trans hw); clear hw; refine ⟨_, rfl, ?_⟩))
        all_goals
          go_wp2_with fail
          go_roundw
          case rel => exact ⟨j + 1, by go_num, by omega, X2⟩
          case measure => simp [intOf]; omega
      · obtain rfl : j = n := by omega
        go_wp2_with fail
        go_ret
        exact ⟨rfl, (unhide HX2 _ _).trans (unhide hX)⟩

set_option maxHeartbeats 2000000 in
theorem rsameF_w (f : Nat) (l : List PFn) (hl : l.all (bdF f) = true) (a b : Option Addr) (ca cb : Nat) (w : World) (h1 : RepFL w (InW w) l a) (h2 : RepFL w (InW w) l b) (hn : l.length ≤ 100000000) :
    Calls Tryz.prog 6 #[.slice a l.length ca, .slice b l.length cb] w fun e w' => e = .returned (.bool true) ∧ Ext w w' := by
  have HA := hide h1
  have HB := hide h2
  have HS := hide hl
  clear h1 h2 hl
  generalize hN : l.length = n at *
  go_enter Tryz.func6, Tryz.ntmps6
  go_wp2_with fail
  go_loopw [5] (fun t wr => ∃ (j : Nat), t = .int .i64 j ∧ j ≤ n ∧ Hd (Ext w wr)) (fun t _ => n - (intOf t).toNat)
  case atStart => exact ⟨0, rfl, by omega, Ext.refl w⟩
  case round =>
    obtain ⟨j, rfl, hj, hX⟩ := hrel
    by_cases hlt : j < n
    · obtain ⟨q, hq⟩ : ∃ q, l[j]? = some q := ⟨_, List.getElem?_eq_getElem (by omega)⟩
      have hbq : bdF f q = true := List.all_eq_true.1 (unhide HS) q (List.mem_of_getElem? hq)
      obtain ⟨b1, o1, pa, ca1, qa, da, rfl, f1, k1, _, s1, m1, t1⟩ := ((unhide HA).inw (unhide hX)).at j q hq
      obtain ⟨b2, o2, pb, cb1, qb, db, rfl, f2, k2, _, s2, m2, t2⟩ := ((unhide HB).inw (unhide hX)).at j q hq
      obtain ⟨nm, ps, bk, bo, bs, bn, bl⟩ := q
      simp only [bdF, Bool.and_eq_true, decide_eq_true_eq] at hbq
      obtain ⟨hps, hbN⟩ := hbq
      simp only at k1 k2 s1 s2 m1 m2 t1 t2 hps
      have HP := hide (fun (W : World) (k : Ext wr W) => rsame_w f ⟨bk, bo, bs, bn, bl⟩ hbN (.agg #[.int .i64 bk, .int .i64 bo, .string bs, .int .i64 bn, .slice qa bl.length da]) (.agg #[.int .i64 bk, .int .i64 bo, .string bs, .int .i64 bn, .slice qb bl.length db]) W (by rw [RepN]; exact ⟨_, _, rfl, m1, t1.inw k⟩) (by rw [RepN]; exact ⟨_, _, rfl, m2, t2.inw k⟩))
      have K1 := hide k1
      have K2 := hide k2
      have S1 := hide s1
      have S2 := hide s2
      have HW : Nonempty (RGw wr) := ⟨⟨wr, Ext.refl _⟩⟩
      have kc0 : ∀ y : RGw wr, y.w.cell? ⟨b1, o1 + j * 7, none⟩ = some (.string nm) := fun y => y.h.cell (k1 0 _ rfl)
      have kc1 : ∀ y : RGw wr, y.w.cell? ⟨b1, o1 + j * 7 + 1, none⟩ = some (.slice pa ps.length ca1) := fun y => y.h.cell (k1 1 _ rfl)
      have kc2 : ∀ y : RGw wr, y.w.cell? ⟨b1, o1 + j * 7 + 2, none⟩ = some (.int .i64 bk) := fun y => y.h.cell (k1 2 _ rfl)
      have kc3 : ∀ y : RGw wr, y.w.cell? ⟨b1, o1 + j * 7 + 3, none⟩ = some (.int .i64 bo) := fun y => y.h.cell (k1 3 _ rfl)
      have kc4 : ∀ y : RGw wr, y.w.cell? ⟨b1, o1 + j * 7 + 4, none⟩ = some (.string bs) := fun y => y.h.cell (k1 4 _ rfl)
      have kc5 : ∀ y : RGw wr, y.w.cell? ⟨b1, o1 + j * 7 + 5, none⟩ = some (.int .i64 bn) := fun y => y.h.cell (k1 5 _ rfl)
      have kc6 : ∀ y : RGw wr, y.w.cell? ⟨b1, o1 + j * 7 + 6, none⟩ = some (.slice qa bl.length da) := fun y => y.h.cell (k1 6 _ rfl)
      have kd0 : ∀ y : RGw wr, y.w.cell? ⟨b2, o2 + j * 7, none⟩ = some (.string nm) := fun y => y.h.cell (k2 0 _ rfl)
      have kd1 : ∀ y : RGw wr, y.w.cell? ⟨b2, o2 + j * 7 + 1, none⟩ = some (.slice pb ps.length cb1) := fun y => y.h.cell (k2 1 _ rfl)
      have kd2 : ∀ y : RGw wr, y.w.cell? ⟨b2, o2 + j * 7 + 2, none⟩ = some (.int .i64 bk) := fun y => y.h.cell (k2 2 _ rfl)
      have kd3 : ∀ y : RGw wr, y.w.cell? ⟨b2, o2 + j * 7 + 3, none⟩ = some (.int .i64 bo) := fun y => y.h.cell (k2 3 _ rfl)
      have kd4 : ∀ y : RGw wr, y.w.cell? ⟨b2, o2 + j * 7 + 4, none⟩ = some (.string bs) := fun y => y.h.cell (k2 4 _ rfl)
      have kd5 : ∀ y : RGw wr, y.w.cell? ⟨b2, o2 + j * 7 + 5, none⟩ = some (.int .i64 bn) := fun y => y.h.cell (k2 5 _ rfl)
      have kd6 : ∀ y : RGw wr, y.w.cell? ⟨b2, o2 + j * 7 + 6, none⟩ = some (.slice qb bl.length db) := fun y => y.h.cell (k2 6 _ rfl)
      clear k1 k2 s1 s2 t1 t2 f1 f2 hq hbN K1 K2
      generalize bl.length = m at *
      generalize hPN : ps.length = pn at *
      go_wp2_with fail
      refine wp_region_rx (W := wr) (by kernel_rfl) (by kernel_rfl) (Ext.refl _) ?_
      repeat (go_big_quiet_step (first
        | (go_at_call 13; exact Calls.rx_of _ _ (unhide HP _ (RGw.h _)))))
      refine wpQuiet_nil ?_
      rintro _ ⟨⟨w2, hx⟩, rfl⟩
      have HX := hide hx
      clear hx kc0 kc2 kc3 kc4 kc5 kc6 kd0 kd2 kd3 kd4 kd5 kd6
      have kc1 := hide kc1
      have kd1 := hide kd1
      have a1 := unhide kc1 ⟨_, unhide HX⟩
      simp only at a1
      go_wp2_with fail
      go_loopw [6] (fun t wr2 => ∃ (k : Nat), t = .int .i64 k ∧ k ≤ pn ∧ Hd (Ext wr wr2)) (fun t _ => pn - (intOf t).toNat)
      case atStart => exact ⟨0, rfl, by omega, HX⟩
      case round =>
        clear HX
        obtain ⟨k, rfl, hk, hx⟩ := hrel
        have a1 := unhide kc1 ⟨_, unhide hx⟩
        have a2 := unhide kd1 ⟨_, unhide hx⟩
        simp only at a1 a2
        by_cases hlt2 : k < pn
        · obtain ⟨p, hp⟩ : ∃ p, ps[k]? = some p := ⟨_, List.getElem?_eq_getElem (by omega)⟩
          obtain ⟨c1, x1, rfl, f1, e0⟩ := ((unhide S1).inw (unhide hx)).at k p hp
          obtain ⟨c2, x2, rfl, f2, g0⟩ := ((unhide S2).inw (unhide hx)).at k p hp
          clear f1 f2 hp
          go_wp2_with fail
          go_region
          go_wp2_with fail
          go_roundw
          case rel => exact ⟨k + 1, by go_num, by omega, (unhide hx).drew⟩
          case measure => simp [intOf]; omega
        · obtain rfl : k = pn := by omega
          go_wp2_with fail
          go_roundw
          case rel => exact ⟨j + 1, by go_num, by omega, (unhide hX).trans (unhide hx)⟩
          case measure => simp [intOf]; omega
    · obtain rfl : j = n := by omega
      go_wp2_with fail
      go_ret
      exact ⟨rfl, unhide hX⟩

end Go.Proofs.YtgkiihjakbnhcaaGreatDoor
