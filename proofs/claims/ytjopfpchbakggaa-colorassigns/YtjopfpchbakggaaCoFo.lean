/- The row of the first numbers, in order; what the two rows compare by. -/
import Derived.Test.YtjopfpchbakggaaCoRw
import Derived.Test.YtjopfpchbakggaaCoGp
import Derived.Laws.EntriesVeiled
set_option linter.unusedSimpArgs false
set_option linter.unusedVariables false
set_option maxRecDepth 10000
namespace Go.Proofs.Ytjopfpchbakggaa
open Go.RowKit

theorem cmpFree (w : World) (l : List Nat) (x : Nat) (h : l.Pairwise (· ≤ ·)) : CmpIs w 15 #[] l x (fun y => cI (y : Int) (x : Int)) := by
  refine ⟨eg_cmp, fun W _ y _ => (cmp_w _ _ W).mono fun e w' ⟨h1, h2⟩ => ⟨h1, by rw [h2]; exact Ext.refl _⟩, fun a b y z hab hy hz hlt => ?_⟩
  have h1 := cI_neg.1 hlt
  refine cI_neg.2 ?_
  rcases Nat.lt_or_ge a b with hl | hl
  · have := List.pairwise_iff_getElem.1 h a b (List.getElem?_eq_some_iff.1 hy).1 (List.getElem?_eq_some_iff.1 hz).1 hl
    rw [(List.getElem?_eq_some_iff.1 hy).2, (List.getElem?_eq_some_iff.1 hz).2] at this
    omega
  · obtain rfl : a = b := by omega
    rw [hy] at hz
    injection hz with hz
    omega
theorem cmpHold (w : World) (L : List Iv) (a : Option Addr) (cap bx : Nat) (l : List Nat) (x : Nat) (h : l.Pairwise (fun a b => kC L a b < 0)) (hl : ∀ y ∈ l, y < L.length) (hx : x < L.length) (hr : RepI w (In w) a (tpI (ivT L))) (hb : Row w bx 22 [.slice a L.length cap]) : CmpIs w 13 #[.pointer (some ⟨bx, 0, none⟩)] l x (fun y => kC L y x) := by
  refine ⟨eg_key, fun W k y hy => key_w L a cap bx y x W (hl y hy) hx (hr.ext k) (hb.on k), fun a b y z hab hy hz hlt => ?_⟩
  rcases Nat.lt_or_ge a b with hl | hl
  · have := List.pairwise_iff_getElem.1 h a b (List.getElem?_eq_some_iff.1 hy).1 (List.getElem?_eq_some_iff.1 hz).1 hl
    rw [(List.getElem?_eq_some_iff.1 hy).2, (List.getElem?_eq_some_iff.1 hz).2] at this
    exact kC_trans this hlt
  · obtain rfl : a = b := by omega
    rw [hy] at hz
    injection hz with hz
    rw [hz]
    exact hlt

def rgN (m k : Nat) : List Nat := List.range k ++ List.replicate (m - k) 0
theorem rgN_at (m k : Nat) (h : k < m) : (ns (rgN m k))[k]? = some (.int .i64 0) := by
  unfold rgN ns
  rw [List.getElem?_map, List.getElem?_append_right (by simp), List.length_range, Nat.sub_self, List.getElem?_replicate, if_pos (by omega)]
  rfl
theorem rgN_set (m k : Nat) (h : k < m) : (ns (rgN m k)).set k (.int .i64 (k : Int)) = ns (rgN m (k + 1)) := by
  rw [ns_set]
  congr 1
  unfold rgN
  rw [List.set_append_right _ _ (by simp), List.length_range, Nat.sub_self, show m - k = (m - (k + 1)) + 1 by omega, List.replicate_succ, List.set_cons_zero, List.range_succ, List.append_assoc]
  rfl
theorem rgN_full (m : Nat) : rgN m m = List.range m := by simp [rgN]

set_option maxHeartbeats 1500000 in
theorem firstOf_w (m : Nat) (w : World) (hm : m ≤ 1000000) : Calls Try.prog 12 #[.int .i64 (m : Int)] w fun e w' => ∃ v, e = .returned (.agg #[v, .func (.func 15) #[] #[]]) ∧ Bk w' w.heap.size v (List.range m) ∧ Ext w w' := by
  obtain ⟨W1, hW1⟩ : ∃ W1, W1 = w.alloc (.cells #[.slice none 0 0, .nilFunc] 44) := ⟨_, rfl⟩
  obtain ⟨W2, hW2⟩ : ∃ W2, W2 = W1.alloc (.cells (ns (List.replicate m 0)).toArray 3) := ⟨_, rfl⟩
  have hs1 : W1.heap.size = w.heap.size + 1 := by rw [hW1]; simp
  have hs2 : W2.heap.size = w.heap.size + 2 := by rw [hW2]; simp [hs1]
  have hmk := make_nats m hm W1
  rw [← hW2, hs1] at hmk
  have X1 : Ext w W1 := by rw [hW1]; exact Ext.alloc _ _
  have X2 : Ext W1 W2 := by rw [hW2]; exact Ext.alloc _ _
  have r0 : Row W2 w.heap.size 44 [.slice none 0 0, .nilFunc] := by
    refine Row.on ?_ X2
    rw [hW1]
    exact Row.new _ _ _
  have r1 : Row W2 (w.heap.size + 1) 3 (ns (rgN m 0)) := by
    rw [hW2, ← hs1, show ns (rgN m 0) = ns (List.replicate m 0) by simp [rgN]]
    exact Row.new _ _ _
  rw [hW1] at hmk
  have HM := hide hmk
  have HX := hide (X1.trans X2)
  have R0 := hide r0
  have R1 := hide r1
  have HS := hide hs2
  clear hmk hW1 hW2 X1 X2 r0 r1 hs1 hs2
  go_enter Try.func12, Try.ntmps12
  go_wp2_with fail
  rw [unhide HM]
  simp only [Result.andThen]
  go_wp2_with fail
  have hS0 : Hd (Ext w (W2.alloc (Obj.cells #[Value.slice (some { block := w.heap.size + 1, off := 0 }) m m, Value.func (Fn.func 15) #[] #[]] 44)) ∧ Row (W2.alloc (Obj.cells #[Value.slice (some { block := w.heap.size + 1, off := 0 }) m m, Value.func (Fn.func 15) #[] #[]] 44)) w.heap.size 44 [.slice none 0 0, .nilFunc] ∧ Row (W2.alloc (Obj.cells #[Value.slice (some { block := w.heap.size + 1, off := 0 }) m m, Value.func (Fn.func 15) #[] #[]] 44)) (w.heap.size + 1) 3 (ns (rgN m 0)) ∧ Row (W2.alloc (Obj.cells #[Value.slice (some { block := w.heap.size + 1, off := 0 }) m m, Value.func (Fn.func 15) #[] #[]] 44)) W2.heap.size 44 [Value.slice (some { block := w.heap.size + 1, off := 0 }) m m, Value.func (Fn.func 15) #[] #[]]) :=
    ⟨(unhide HX).trans (Ext.alloc _ _), (unhide R0).on (Ext.alloc _ _), (unhide R1).on (Ext.alloc _ _), Row.new _ [Value.slice (some { block := w.heap.size + 1, off := 0 }) m m, Value.func (Fn.func 15) #[] #[]] _⟩
  generalize W2.alloc (Obj.cells #[Value.slice (some { block := w.heap.size + 1, off := 0 }) m m, Value.func (Fn.func 15) #[] #[]] 44) = W3 at hS0 ⊢
  have hs2 := unhide HS
  obtain ⟨N2, hN2⟩ : ∃ N2, N2 = W2.heap.size := ⟨_, rfl⟩
  rw [← hN2] at hS0 hs2 ⊢
  have HN := hide hs2
  clear R0 R1 HX HM HS hN2 hs2
  go_loopw [11] (fun t wq => ∃ (k : Nat), t = .int .i64 k ∧ k ≤ m ∧ Hd (Ext w wq ∧ Row wq w.heap.size 44 [.slice none 0 0, .nilFunc] ∧ Row wq (w.heap.size + 1) 3 (ns (rgN m k)) ∧ Row wq N2 44 [Value.slice (some { block := w.heap.size + 1, off := 0 }) m m, Value.func (Fn.func 15) #[] #[]])) (fun t _ => m - (intOf t).toNat)
  case atStart => exact ⟨0, rfl, by omega, hS0⟩
  case round =>
    clear hS0
    obtain ⟨k, rfl, hk, hS⟩ := hrel
    have z0 := (unhide hS).2.2.2.cell 0 rfl
    have z1 := (unhide hS).2.2.2.cell 1 rfl
    have y0 := (unhide hS).2.1.cell 0 rfl
    have y1 := (unhide hS).2.1.cell 1 rfl
    have zy := k_rowF (unhide hS).2.1
    by_cases hlt : k < m
    · have hlt2 : (k : Int) < (m : Int) := by omega
      have fz := k_rowF (unhide hS).2.2.1 k
      have ck := (unhide hS).2.2.1.cell k (rgN_at m k hlt)
      have HA := hide (show N2 ≠ w.heap.size + 1 by have := unhide HN; omega)
      go_wp2_with fail
      go_roundw
      case rel =>
        obtain ⟨s1, s2, s3, s4⟩ := unhide hS
        exact ⟨k + 1, by go_num, by omega, s1.set (p := ⟨w.heap.size + 1, k, none⟩) (Nat.le_succ _) _, s2.other (Nat.ne_of_lt (Nat.lt_succ_self _)) _ _, by rw [← rgN_set m k hlt]; exact s3.set k _, s4.other (unhide HA) _ _⟩
      case measure => simp [intOf]; omega
    · have hkm : k = m := by omega
      have hlt2 : ¬ (k : Int) < (m : Int) := by omega
      have hne1 : w.heap.size ≠ N2 := by have := unhide HN; omega
      go_wp2_with fail
      obtain ⟨s1, s2, s3, s4⟩ := unhide hS
      rw [hkm, rgN_full] at s3
      have s5 := (s2.set 0 (Value.slice (some { block := w.heap.size + 1, off := 0 }) m m)).set 1 (Value.func (Fn.func 15) #[] #[])
      have s6 := (s3.other (Nat.ne_of_gt (Nat.lt_succ_self _)) 0 (Value.slice (some { block := w.heap.size + 1, off := 0 }) m m)).other (Nat.ne_of_gt (Nat.lt_succ_self _)) 1 (Value.func (Fn.func 15) #[] #[])
      refine bodyPost_ret (v := .agg #[Value.slice (some { block := w.heap.size + 1, off := 0 }) m m, Value.func (Fn.func 15) #[] #[]]) (results_cell_row Try.results12 _ _ w.heap.size 44 #[Value.slice (some { block := w.heap.size + 1, off := 0 }) m m, Value.func (Fn.func 15) #[] #[]] (0, 0) _ rfl s5 Try.underlying44 rfl (by kernel_rfl)) rfl ⟨_, rfl, ⟨_, m, by simp, by simp, by unfold maxLen; omega, Or.inr ⟨w.heap.size + 1, 0, _, rfl, Nat.le_succ _, s6, by simp, fun j x hj => by simp [ns, hj]⟩⟩, (s1.set (p := ⟨w.heap.size, 0, none⟩) (Nat.le_refl _) _).set (p := ⟨w.heap.size, 1, none⟩) (Nat.le_refl _) _⟩

end Go.Proofs.Ytjopfpchbakggaa
