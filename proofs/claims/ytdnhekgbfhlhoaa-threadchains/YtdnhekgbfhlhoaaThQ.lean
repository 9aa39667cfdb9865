/- Two blocks of which the first jumps to the second, laid together: what is told ahead of it. -/
import Derived.Test.YtdnhekgbfhlhoaaThP
set_option linter.unusedSimpArgs false
set_option linter.unusedVariables false
set_option maxRecDepth 10000
namespace Go.Proofs.Ytdnhekgbfhlhoaa
open Go.RowKit

abbrev tw (c0 c1 : Nat) : List RB := [⟨c0, ⟨1, 0, 1, 0⟩⟩, ⟨c1, ⟨3, 0, 0, 0⟩⟩]
theorem tw_ways (c0 c1 : Nat) : (tw c0 c1).map (fun b => waysP b.t) = [[1], []] := rfl
theorem tw_preds : gPreds [[1], []] = [[], [0]] := by rfl

set_option maxHeartbeats 4000000 in
theorem followers_w (nm : ByteArray) (ps rg : Int) (g c c0 c1 : Nat) (ads : List (Option Addr × Nat)) (w : World) (hr : RepB w (In w) (some ⟨g, 0, none⟩) (tw c0 c1) ads) :
    Calls Try.prog 22 #[rfV nm ps rg (some ⟨g, 0, none⟩) 2 c] w fun e w' => ∃ N, e = .returned (.slice (some ⟨N, 0, none⟩) 2 2) ∧ w.heap.size ≤ N ∧ Row w' N 3 (zs [1, -1]) ∧ Ext w w' := by
  have hG := hide (fun (W : World) (x : Ext w W) => graph_w nm ps rg (some ⟨g, 0, none⟩) c (tw c0 c1) ads W (by simp) (hr.ext x))
  rw [tw_ways] at hG
  have hP := hide (fun (W : World) (P : Nat) (x : RepG W (In W) (some ⟨P, 0, none⟩) [[1], []]) => preds_w (some ⟨P, 0, none⟩) 2 [[1], []] W x ⟨by decide, fun l hl => by simp at hl; rcases hl with rfl | rfl <;> simp⟩)
  have hH := hide (fun (a : Option Addr) (c : Nat) (z : Int) (W : World) => hasG_w a 2 c z W (by decide))
  rw [tw_preds] at hP
  have hmk : ∀ W : World, (Instr.makeSlice 30 (.int .i64 2) (.int .i64 2)).run Try.prog W = .ok (.slice (some ⟨W.heap.size, 0, none⟩) 2 2) (W.alloc (.cells (zs (List.replicate 2 0)).toArray 3)) := fun W => make_ints 2 (by decide) W
  have HR := hide hr
  obtain ⟨cz, hcz⟩ : ∃ cz, cz = (zs (List.replicate 2 0)).toArray := ⟨_, rfl⟩
  rw [← hcz] at hmk
  have HN0 : Hd (∀ W : World, Row (W.alloc (.cells cz 3)) W.heap.size 3 (zs [0, 0])) := fun W => by rw [hcz]; exact Row.new W (zs [0, 0]) 3
  clear hr hcz
  go_enter Try.func22, Try.ntmps22
  go_wp2_with (first
    | (go_at_call 34; refine Calls.mono (unhide hG _ (Ext.alloc _ _)) ?_; rintro e w1 ⟨P, rfl, hPp, hg, x1⟩; have X1 := hide x1; have HG := hide hg; have q3 := x1.cell (cell_box w _ 24 3 rfl); clear x1 hg hPp)
    | (go_at_call 35; refine Calls.mono (unhide hP _ _ (unhide HG)) ?_; rintro e w2 ⟨D, pad, rfl, hrw⟩; have HRw := hide hrw; have q3 := hrw.ext.cell q3; have q3a := (fun ob => (Ext.alloc w2 ob).cell q3); clear hrw))
  obtain ⟨N, hN⟩ : ∃ N, N = w2.heap.size := ⟨_, rfl⟩
  have hR0 : Hd (Row (w2.alloc (.cells cz 3)) N 3 (zs [0, 0])) := by rw [hN]; exact unhide HN0 w2
  have XW : Hd (Ext w w2) := ((Ext.alloc _ _).trans (unhide X1)).trans (unhide HRw).ext
  have HNw : Hd (w.heap.size ≤ N) := by rw [hN]; exact (unhide XW).size
  have HNe := hide hN
  rw [← hN]
  clear hmk hN
  go_loopw [18] (fun t wr => ∃ j v, t = .int .i64 (j : Int) ∧ ((j = 0 ∧ v = [0, 0]) ∨ (j = 1 ∧ v = [1, 0]) ∨ (j = 2 ∧ v = [1, -1])) ∧ Hd (Row wr N 3 (zs v)) ∧ Hd (Ext w2 wr)) (fun t _ => 2 - (intOf t).toNat)
  case atStart => exact ⟨0, _, rfl, Or.inl ⟨rfl, rfl⟩, hR0, Ext.alloc _ _⟩
  case round =>
    clear q3 q3a
    obtain ⟨j, v, rfl, hj, hR, hX⟩ := hrel
    have rB := (unhide HR).ext ((unhide XW).trans (unhide hX))
    have fN := fun i : Nat => k_rowF (unhide hR) i
    rcases hj with ⟨rfl, rfl⟩ | ⟨rfl, rfl⟩ | ⟨rfl, rfl⟩
    · obtain ⟨g2, o, d, e, _, _, c0', c1', c2', c3', c4', _⟩ := rB.at (i := 0) rfl
      injection e with e
      injection e with e1 e2
      subst e1 e2
      have y0 := fun ob => (Ext.alloc wr ob).cell ((unhide hR).cell 0 rfl)
      have fN := fun ob => fun i : Nat => k_rowF ((unhide hR).on (Ext.alloc wr ob)) i
      obtain ⟨pa, hpa, z1⟩ := (unhide HRw).at (i := 1) rfl
      have hDN : D ≠ N := by have := k_lt (unhide HRw).rP; have := unhide HNe; omega
      have z1 := fun ob => (show ((wr.alloc ob).setCell ⟨N, 0, none⟩ (.int .i64 (-1))).cell? ⟨D, 1, none⟩ = _ from (World.cell?_of_block (k_row_other rfl hDN _ _)).trans ((Ext.alloc wr ob).cell ((unhide hX).cell z1)))
      clear rB hpa
      go_wp2_with (go_at_call 36; refine Calls.mono (unhide hH _ _ _ _) ?_; rintro e w3 ⟨rfl, hw⟩; obtain rfl := hw.symm; clear hw)
      have hNw := unhide HNe
      refine ⟨⟨1, [1, 0], rfl, Or.inr (Or.inl ⟨rfl, rfl⟩), ?_, ?_⟩, by decide⟩
      · exact (((unhide hR).on (Ext.alloc wr _)).set 0 (.int .i64 (-1))).set 0 (.int .i64 1)
      · exact (((unhide hX).trans (Ext.alloc wr _)).set (by show w2.heap.size ≤ N; omega) _).set (by show w2.heap.size ≤ N; omega) _
    · obtain ⟨g2, o, d, e, _, _, c0', c1', c2', c3', c4', _⟩ := rB.at (i := 1) rfl
      injection e with e
      injection e with e1 e2
      subst e1 e2
      have y0 := fun ob => (Ext.alloc wr ob).cell ((unhide hR).cell 1 rfl)
      have fN := fun ob => fun i : Nat => k_rowF ((unhide hR).on (Ext.alloc wr ob)) i
      have hn1 : wr.heap.size ≠ N := by have := k_lt (unhide hR); omega
      have hn2 : N ≠ wr.heap.size := fun e => hn1 e.symm
      clear rB
      go_wp2_with fail
      have hNw := unhide HNe
      refine ⟨⟨2, [1, -1], rfl, Or.inr (Or.inr ⟨rfl, rfl⟩), ?_, ?_⟩, by decide⟩
      · exact ((unhide hR).on (Ext.alloc wr _)).set 1 (.int .i64 (-1))
      · exact ((unhide hX).trans (Ext.alloc wr _)).set (by show w2.heap.size ≤ N; omega) _
    · clear rB fN
      go_wp2_with fail
      go_ret
      exact ⟨N, rfl, unhide HNw, unhide hR, (unhide XW).trans (unhide hX)⟩

end Go.Proofs.Ytdnhekgbfhlhoaa
