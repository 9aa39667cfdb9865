/- An end, led and turned. -/
import Derived.Test.YtdnhekgbfhlhoaaThL
set_option linter.unusedSimpArgs false
set_option linter.unusedVariables false
set_option maxRecDepth 10000
namespace Go.Proofs.Ytdnhekgbfhlhoaa
open Go.RowKit

def turnedP (f : Int → Int) (t : RT) : RT := if (ledP f t).k = 2 ∧ (ledP f t).t = (ledP f t).e then ⟨1, 0, (ledP f t).t, 0⟩ else ledP f t

set_option maxHeartbeats 2000000 in
theorem turned_w (t : RT) (B N : Nat) (ga : Option Addr) (gc : Nat) (l : List RB) (ads : List (Option Addr × Nat)) (F : Nat → Nat) (fin : List Int) (w : World) (hn : l.length ≤ 1000000) (hF : Fwd l F)
    (hr : RepB w (fun q => q < w.heap.size ∧ q ≠ N) ga l ads) (hT : TrS w B N ga gc l.length fin) (hI : FinI F [] fin) :
    Calls Try.prog 19 #[.pointer (some ⟨B, 0, none⟩), rtV t] w fun e w' => e = .returned (rtV (turnedP (fz l.length F) t)) ∧ ∃ fin2, FnI w w' B N ga gc l.length F fin2 := by
  have hBw : B < w.heap.size := k_lt hT.box
  have hNw : N < w.heap.size := k_lt hT.row
  have HB := hide hBw
  have HN := hide hNw
  have HLd := hide (fun (W : World) (x : Ext w W) => ledT_w t B N ga gc l ads F fin W hn hF (hr.to fun b hb => ⟨⟨Nat.lt_of_lt_of_le hb.1 x.size, hb.2⟩, x.block b hb.1⟩) (hT.on x) hI)
  have HI := hide hI
  generalize l.length = n at *
  unfold turnedP
  generalize ledP (fz n F) t = u at *
  clear hr hT hI hF hBw hNw
  obtain ⟨k, a, tt, te⟩ := t
  obtain ⟨uk, ua, ut, ue⟩ := u
  simp only at HLd ⊢
  have HE : Hd (∀ (o1 o2 : Obj) (w1 : World) (fin2 : List Int), FnI ((w.alloc o1).alloc o2) w1 B N ga gc n F fin2 → FnI w w1 B N ga gc n F fin2) := fun o1 o2 w1 fin2 h => ⟨h.tr, h.inv, gb_trans (gb_ext (ext2 _ _) _) h.gb⟩
  have HS : Hd (∀ (w1 : World) (fin2 : List Int) (b i0 i1 i2 i3 j0 j1 j2 j3 : Nat) (v0 v1 v2 v3 x0 x1 x2 x3 : Value), FnI w w1 B N ga gc n F fin2 → FnI w ((((((((w1.setCell ⟨w.heap.size, i0, none⟩ v0).setCell ⟨w.heap.size, i1, none⟩ v1).setCell ⟨w.heap.size, i2, none⟩ v2).setCell ⟨w.heap.size, i3, none⟩ v3).setCell ⟨w.heap.size + 1, j0, none⟩ x0).setCell ⟨w.heap.size + 1, j1, none⟩ x1).setCell ⟨w.heap.size + 1, j2, none⟩ x2).setCell ⟨w.heap.size + 1, j3, none⟩ x3) B N ga gc n F fin2) := fun w1 fin2 b i0 i1 i2 i3 j0 j1 j2 j3 v0 v1 v2 v3 x0 x1 x2 x3 h =>
    FnI.set (FnI.set (FnI.set (FnI.set (FnI.set (FnI.set (FnI.set (FnI.set h (unhide HB) (unhide HN) (Nat.le_refl _) _ _) (unhide HB) (unhide HN) (Nat.le_refl _) _ _) (unhide HB) (unhide HN) (Nat.le_refl _) _ _) (unhide HB) (unhide HN) (Nat.le_refl _) _ _) (unhide HB) (unhide HN) (Nat.le_succ _) _ _) (unhide HB) (unhide HN) (Nat.le_succ _) _ _) (unhide HB) (unhide HN) (Nat.le_succ _) _ _) (unhide HB) (unhide HN) (Nat.le_succ _) _ _
  rcases (show uk ≠ 2 ∨ (uk = 2 ∧ ut = ue) ∨ (uk = 2 ∧ ut ≠ ue) by omega) with h | ⟨rfl, rfl⟩ | ⟨rfl, h⟩
  case inl =>
    rw [if_neg (by omega)]
    have e2 : (uk == 2) = false := by simp [h]
    go_enter Try.func19, Try.ntmps19
    go_wp2_with (go_at_call 32; refine Calls.mono (unhide HLd _ (ext2 _ _)) ?_; rintro e w2 ⟨rfl, fin2, k2⟩; have K2 := hide (unhide HE _ _ _ _ k2); obtain ⟨c0, c1, c2, c3, f1, d, f2⟩ := boxT (t := ⟨k, a, tt, te⟩) k2.gb (unhide HN); have d0 : w2.cell? ⟨w.heap.size + 1, 0, none⟩ = some (.int .i64 0) := d 0 _ rfl; have d1 : w2.cell? ⟨w.heap.size + 1, 1, none⟩ = some (.int .i64 0) := d 1 _ rfl; have d2 : w2.cell? ⟨w.heap.size + 1, 2, none⟩ = some (.int .i64 0) := d 2 _ rfl; have d3 : w2.cell? ⟨w.heap.size + 1, 3, none⟩ = some (.int .i64 0) := d 3 _ rfl; clear k2 d)
    exact bodyPost_ret (v := rtV ⟨uk, ua, ut, ue⟩) (by simp [results, Try.results19, go_sem, d0, d1, d2, d3]) rfl ⟨rfl, fin2, unhide HS _ _ 0 _ _ _ _ _ _ _ _ _ _ _ _ _ _ _ _ (unhide K2)⟩
  case inr.inl =>
    rw [if_pos ⟨rfl, rfl⟩]
    go_enter Try.func19, Try.ntmps19
    go_wp2_with (go_at_call 32; refine Calls.mono (unhide HLd _ (ext2 _ _)) ?_; rintro e w2 ⟨rfl, fin2, k2⟩; have K2 := hide (unhide HE _ _ _ _ k2); obtain ⟨c0, c1, c2, c3, f1, d, f2⟩ := boxT (t := ⟨k, a, tt, te⟩) k2.gb (unhide HN); have d0 : w2.cell? ⟨w.heap.size + 1, 0, none⟩ = some (.int .i64 0) := d 0 _ rfl; have d1 : w2.cell? ⟨w.heap.size + 1, 1, none⟩ = some (.int .i64 0) := d 1 _ rfl; have d2 : w2.cell? ⟨w.heap.size + 1, 2, none⟩ = some (.int .i64 0) := d 2 _ rfl; have d3 : w2.cell? ⟨w.heap.size + 1, 3, none⟩ = some (.int .i64 0) := d 3 _ rfl; clear k2 d)
    exact bodyPost_ret (v := rtV ⟨1, 0, ut, 0⟩) (by simp [results, Try.results19, go_sem, d0, d1, d2, d3]) rfl ⟨rfl, fin2, unhide HS _ _ 0 _ _ _ _ _ _ _ _ _ _ _ _ _ _ _ _ (unhide K2)⟩
  case inr.inr =>
    rw [if_neg (by simp [h])]
    have e2 : (ut == ue) = false := by simp [h]
    go_enter Try.func19, Try.ntmps19
    go_wp2_with (go_at_call 32; refine Calls.mono (unhide HLd _ (ext2 _ _)) ?_; rintro e w2 ⟨rfl, fin2, k2⟩; have K2 := hide (unhide HE _ _ _ _ k2); obtain ⟨c0, c1, c2, c3, f1, d, f2⟩ := boxT (t := ⟨k, a, tt, te⟩) k2.gb (unhide HN); have d0 : w2.cell? ⟨w.heap.size + 1, 0, none⟩ = some (.int .i64 0) := d 0 _ rfl; have d1 : w2.cell? ⟨w.heap.size + 1, 1, none⟩ = some (.int .i64 0) := d 1 _ rfl; have d2 : w2.cell? ⟨w.heap.size + 1, 2, none⟩ = some (.int .i64 0) := d 2 _ rfl; have d3 : w2.cell? ⟨w.heap.size + 1, 3, none⟩ = some (.int .i64 0) := d 3 _ rfl; clear k2 d)
    exact bodyPost_ret (v := rtV ⟨2, ua, ut, ue⟩) (by simp [results, Try.results19, go_sem, d0, d1, d2, d3]) rfl ⟨rfl, fin2, unhide HS _ _ 0 _ _ _ _ _ _ _ _ _ _ _ _ _ _ _ _ (unhide K2)⟩

end Go.Proofs.Ytdnhekgbfhlhoaa
