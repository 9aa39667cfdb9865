/- A copy of any value; a value copied as it is taken; a text as a value. -/
import Derived.Test.YtbkncdjmodeabaaValCopy
set_option linter.unusedSimpArgs false
set_option maxRecDepth 10000
namespace Go.Proofs.Ytbkncdjmodeabaa
open Go.RowKit

theorem bd0 {k n : Int} {re im : Nat} {s : ByteArray} (hk1 : -9223372036854775808 ≤ k) (hk2 : k ≤ 9223372036854775807) (hn1 : -9223372036854775808 ≤ n) (hn2 : n ≤ 9223372036854775807)
    (hre : re < 18446744073709551616) (him : im < 18446744073709551616) (hs : s.size ≤ 140737488355328) : Bd k n re im s 0 0 := ⟨hk1, hk2, hn1, hn2, hre, him, hs, by decide, by decide⟩

theorem rep_leaf (w : World) (F : Nat → Prop) {k n : Int} {re im : Nat} {s : ByteArray} (hb : Bd k n re im s 0 0) : Rep w F (.mk k n re im s []) (.agg #[.int .i64 k, .int .i64 n, .complex .f64 re im, .string s, .slice none 0 0]) := by
  rw [Rep]
  exact ⟨none, 0, rfl, hb, by simp [RepL]⟩

theorem copied_any : ∀ (p : PV) (v : Value) (w : World), Rep w (In w) p v →
    Calls Try.prog 76 #[v] w fun e w' => ∃ v', e = .returned v' ∧ Rep w' (Fresh w w') (norm p) v' ∧ Ext w w' := by
  refine PV.byList ?_
  intro k n re im s l ih v w hr
  by_cases hk4 : k = 4
  · subst hk4
    exact copied_four n re im s l ih v w hr
  · rw [Rep] at hr
    obtain ⟨a, cap, rfl, hb, hl⟩ := hr
    have B := hide hb
    have hs := hb.bs
    clear hl ih hb
    by_cases hk1 : k = 1
    · subst hk1
      go_enter Try.func76, Try.ntmps76
      go_wp2_with (go_at_call 40; refine Calls.mono (int_any _ _) ?_; rintro e w1 ⟨rfl, hw1⟩; have hx0 := hw1.box 0 rfl; have hx1 := hw1.box 1 rfl; have hx2 := hw1.box 2 rfl; have hx3 := hw1.box 3 rfl; have hx4 := hw1.box 4 rfl; have hf := hw1.boxF; simp only [heap_alloc_size] at hx0 hx1 hx2 hx3 hx4 hf)
      have hE := ((Ext.alloc w _).trans (Ext.alloc _ _)).trans hw1
      have hb := unhide B
      refine bodyPost_ret (v := .agg #[.int .i64 1, .int .i64 n, .complex .f64 0 0, .string ⟨#[]⟩, .slice none 0 0]) (by simp [results, Try.results76, go_sem, hx0, hx1, hx2, hx3, hx4]) rfl ⟨_, rfl, ?_, ((((hE.set (by simp) _).set (by simp) _).set (by simp) _).set (by simp) _).set (by simp) _⟩
      rw [norm, if_pos rfl]
      exact rep_leaf _ _ (bd0 hb.bk1 hb.bk2 hb.bn1 hb.bn2 (by decide) (by decide) (by decide))
    · by_cases hk2 : k = 2
      · subst hk2
        go_enter Try.func76, Try.ntmps76
        go_wp2_with fail
        go_returns
        have hb := unhide B
        refine ⟨_, rfl, ?_, (Ext.alloc _ _).trans (Ext.alloc _ _)⟩
        rw [norm, if_neg (by decide), if_pos rfl]
        exact rep_leaf _ _ (bd0 hb.bk1 hb.bk2 (by decide) (by decide) hb.bre hb.bim (by decide))
      · by_cases hk3 : k = 3
        · subst hk3
          go_enter Try.func76, Try.ntmps76
          go_wp2_with (go_at_call 86; refine Calls.mono (clone_any _ _ hs) ?_; rintro e w1 ⟨rfl, hw1⟩; have hx0 := hw1.box 0 rfl; have hx1 := hw1.box 1 rfl; have hx2 := hw1.box 2 rfl; have hx3 := hw1.box 3 rfl; have hx4 := hw1.box 4 rfl; have hf := hw1.boxF; simp only [heap_alloc_size] at hx0 hx1 hx2 hx3 hx4 hf)
          have hE := ((Ext.alloc w _).trans (Ext.alloc _ _)).trans hw1
          have hb := unhide B
          refine bodyPost_ret (v := .agg #[.int .i64 3, .int .i64 0, .complex .f64 0 0, .string s, .slice none 0 0]) (by simp [results, Try.results76, go_sem, hx0, hx1, hx2, hx3, hx4]) rfl ⟨_, rfl, ?_, ((((hE.set (by simp) _).set (by simp) _).set (by simp) _).set (by simp) _).set (by simp) _⟩
          rw [norm, if_neg (by decide), if_neg (by decide), if_pos rfl]
          exact rep_leaf _ _ (bd0 hb.bk1 hb.bk2 (by decide) (by decide) (by decide) (by decide) hs)
        · have e1 : (k == 1) = false := by simpa using hk1
          have e2 : (k == 2) = false := by simpa using hk2
          have e3 : (k == 3) = false := by simpa using hk3
          have e4 : (k == 4) = false := by simpa using hk4
          go_enter Try.func76, Try.ntmps76
          go_wp2_with (go_at_call 17; refine Calls.mono (nil_any _) ?_; rintro e w1 ⟨rfl, hw1⟩; have hx0 := hw1.box 0 rfl; have hx1 := hw1.box 1 rfl; have hx2 := hw1.box 2 rfl; have hx3 := hw1.box 3 rfl; have hx4 := hw1.box 4 rfl; have hf := hw1.boxF; simp only [heap_alloc_size] at hx0 hx1 hx2 hx3 hx4 hf)
          have hE := ((Ext.alloc w _).trans (Ext.alloc _ _)).trans hw1
          refine bodyPost_ret (v := nilV) (by simp [results, Try.results76, go_sem, hx0, hx1, hx2, hx3, hx4]) rfl ⟨_, rfl, ?_, ((((hE.set (by simp) _).set (by simp) _).set (by simp) _).set (by simp) _).set (by simp) _⟩
          rw [norm, if_neg hk1, if_neg hk2, if_neg hk3, if_neg hk4]
          exact rep_nil _ _

/-- A copy of what a value is taken for. -/
def cp (p : PV) : PV := norm (tk p)

theorem copy_any (p : PV) (v : Value) (w : World) (hr : Rep w (In w) p v) :
    Calls Try.prog 58 #[v] w fun e w' => ∃ v', e = .returned v' ∧ Rep w' (Fresh w w') (cp p) v' ∧ Ext w w' := by
  have hc := fun w' (h : Ext w w') => taken_any p v w' (hr.ext h)
  have hd := fun v' w' (h : Rep w' (In w') (tk p) v') => copied_any (tk p) v' w' h
  have hq : cp p = norm (tk p) := rfl
  obtain ⟨q, hq2⟩ : ∃ q, q = norm (tk p) := ⟨_, rfl⟩
  rw [hq, ← hq2]
  rw [← hq2] at hd
  obtain ⟨t, ht⟩ : ∃ t, t = tk p := ⟨_, rfl⟩
  rw [← ht] at hc hd
  clear hq hq2 ht
  cases p with
  | mk k n re im s l =>
  cases q with
  | mk k' n' re' im' s' l' =>
  rw [Rep] at hr
  obtain ⟨a, cap, rfl, hb, hl⟩ := hr
  have C := hide hc
  have D := hide hd
  clear hc hd hb hl
  go_enter Try.func58, Try.ntmps58
  go_wp2_with (first | (go_at_call 67; refine Calls.mono (unhide C _ ((Ext.alloc _ _).trans (Ext.alloc _ _))) ?_; rintro e w1 ⟨v1, rfl, hr1, hw1⟩) | (go_at_call 76; refine Calls.mono (unhide D _ _ hr1) ?_; rintro e w2 ⟨v2, rfl, hr2, hw2⟩; rw [Rep] at hr2; obtain ⟨a2, c2, rfl, hb2, hl2⟩ := hr2; have hw3 := hw1.trans hw2; have hx0 := hw3.box 0 rfl; have hx1 := hw3.box 1 rfl; have hx2 := hw3.box 2 rfl; have hx3 := hw3.box 3 rfl; have hx4 := hw3.box 4 rfl; have hf := hw3.boxF; simp only [heap_alloc_size] at hx0 hx1 hx2 hx3 hx4 hf))
  have hE := ((Ext.alloc w _).trans (Ext.alloc _ _)).trans hw3
  have hE5 := ((((hE.set (a := ⟨w.heap.size + 1, 0, none⟩) (by simp) (.int .i64 k')).set (a := ⟨w.heap.size + 1, 1, none⟩) (by simp) (.int .i64 n')).set (a := ⟨w.heap.size + 1, 2, none⟩) (by simp) (.complex .f64 re' im')).set (a := ⟨w.heap.size + 1, 3, none⟩) (by simp) (.string s')).set (a := ⟨w.heap.size + 1, 4, none⟩) (by simp) (.slice a2 l'.length c2)
  have hlow : w.heap.size + 1 < w1.heap.size := by have := hw1.le; simp at this; omega
  refine bodyPost_ret (v := .agg #[.int .i64 k', .int .i64 n', .complex .f64 re' im', .string s', .slice a2 l'.length c2]) (by simp [results, Try.results58, go_sem, hx0, hx1, hx2, hx3, hx4]) rfl ⟨_, rfl, ?_, hE5⟩
  rw [Rep]
  refine ⟨a2, c2, rfl, hb2, RepL.to (fun b hb => ⟨⟨?fa, ?fb⟩, ?fc⟩) _ _ hl2⟩
  case fa => have := hb.1; omega
  case fb =>
    simp only [World.setCell, Array.size_modify]
    exact hb.2
  case fc =>
    have hne : b ≠ w.heap.size + 1 := by have := hb.1; omega
    rw [Below.heap_setCell _ _ _ _ hne, Below.heap_setCell _ _ _ _ hne, Below.heap_setCell _ _ _ _ hne, Below.heap_setCell _ _ _ _ hne, Below.heap_setCell _ _ _ _ hne]

/-- A text as a value. -/
def textP (s : ByteArray) : PV := cp (.mk 3 0 0 0 s [])

theorem valtext_any (s : ByteArray) (w : World) (hs : s.size ≤ 140737488355328) :
    Calls Try.prog 42 #[.string s] w fun e w' => ∃ v', e = .returned v' ∧ Rep w' (Fresh w w') (textP s) v' ∧ Ext w w' := by
  have hc := fun w' => copy_any (.mk 3 0 0 0 s []) _ w' (rep_leaf w' _ (bd0 (by decide) (by decide) (by decide) (by decide) (by decide) (by decide) hs))
  have hq : textP s = cp (.mk 3 0 0 0 s []) := rfl
  rw [hq]
  obtain ⟨q, hq2⟩ : ∃ q, q = cp (.mk 3 0 0 0 s []) := ⟨_, rfl⟩
  rw [← hq2] at hc ⊢
  clear hq hq2
  cases q with
  | mk k' n' re' im' s' l' =>
  have C := hide hc
  clear hc
  go_enter Try.func42, Try.ntmps42
  go_wp2_with (go_at_call 58; refine Calls.mono (unhide C _) ?_; rintro e w1 ⟨v2, rfl, hr2, hw1⟩; rw [Rep] at hr2; obtain ⟨a2, c2, rfl, hb2, hl2⟩ := hr2; have hx0 := hw1.box 0 rfl; have hx1 := hw1.box 1 rfl; have hx2 := hw1.box 2 rfl; have hx3 := hw1.box 3 rfl; have hx4 := hw1.box 4 rfl; have hf := hw1.boxF)
  have hE := (Ext.alloc w _).trans hw1
  have hE5 := ((((hE.set (a := ⟨w.heap.size, 0, none⟩) (by simp) (.int .i64 k')).set (a := ⟨w.heap.size, 1, none⟩) (by simp) (.int .i64 n')).set (a := ⟨w.heap.size, 2, none⟩) (by simp) (.complex .f64 re' im')).set (a := ⟨w.heap.size, 3, none⟩) (by simp) (.string s')).set (a := ⟨w.heap.size, 4, none⟩) (by simp) (.slice a2 l'.length c2)
  refine bodyPost_ret (v := .agg #[.int .i64 k', .int .i64 n', .complex .f64 re' im', .string s', .slice a2 l'.length c2]) (by simp [results, Try.results42, go_sem, hx0, hx1, hx2, hx3, hx4]) rfl ⟨_, rfl, ?_, hE5⟩
  rw [Rep]
  refine ⟨a2, c2, rfl, hb2, RepL.to (fun b hb => ⟨⟨?fa, ?fb⟩, ?fc⟩) _ _ hl2⟩
  case fa => have := hb.1; simp at this; omega
  case fb =>
    simp only [World.setCell, Array.size_modify]
    exact hb.2
  case fc =>
    have hne : b ≠ w.heap.size := by have := hb.1; simp at this; omega
    rw [Below.heap_setCell _ _ _ _ hne, Below.heap_setCell _ _ _ _ hne, Below.heap_setCell _ _ _ _ hne, Below.heap_setCell _ _ _ _ hne, Below.heap_setCell _ _ _ _ hne]

end Go.Proofs.Ytbkncdjmodeabaa
