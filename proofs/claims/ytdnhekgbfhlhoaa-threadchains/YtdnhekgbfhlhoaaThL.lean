/- An end, led to where its ways come to: Led over final, turned. -/
import Derived.Test.YtdnhekgbfhlhoaaThW
import Derived.Deep.QuietTactic
set_option linter.unusedSimpArgs false
set_option linter.unusedVariables false
set_option maxRecDepth 10000
namespace Go.Proofs.Ytdnhekgbfhlhoaa
open Go.RowKit

def ledP (f : Int → Int) (t : RT) : RT := if t.k = 2 then ⟨2, t.a, f t.t, f t.e⟩ else if t.k = 1 then ⟨1, t.a, f t.t, t.e⟩ else t
theorem gb_setNew {a b : World} {r : Option Nat} (h : a.grownBy b r) {p : Addr} (hp : a.heap.size ≤ p.block) (v : Value) : a.grownBy (b.setCell p v) r :=
  ⟨h.os, h.tape, h.output, by simp only [World.setCell, Array.size_modify]; exact h.size, fun q hq hn => (Below.heap_setCell _ _ _ _ (by omega)).trans (h.block q hq hn)⟩
/-- Two boxes, of which the first holds an end; behind a call that turns but one block of before. -/
theorem boxT {w w1 : World} {N : Nat} {t : RT} {c2 : Array Value} {t2 : TypeId} (h : ((w.alloc (.cells #[.int .i64 t.k, .int .i64 t.a, .int .i64 t.t, .int .i64 t.e] 35)).alloc (.cells c2 t2)).grownBy w1 (some N)) (hN : N < w.heap.size) :
    w1.cell? ⟨w.heap.size, 0, none⟩ = some (.int .i64 t.k) ∧ w1.cell? ⟨w.heap.size, 1, none⟩ = some (.int .i64 t.a) ∧ w1.cell? ⟨w.heap.size, 2, none⟩ = some (.int .i64 t.t) ∧ w1.cell? ⟨w.heap.size, 3, none⟩ = some (.int .i64 t.e) ∧ (∀ j : Nat, w1.frozen? ⟨w.heap.size, j, none⟩ = false) ∧
    (∀ (i : Nat) (v : Value), c2[i]? = some v → w1.cell? ⟨w.heap.size + 1, i, none⟩ = some v) ∧ (∀ j : Nat, w1.frozen? ⟨w.heap.size + 1, j, none⟩ = false) := by
  have r1 := (Ext.alloc _ (.cells c2 t2)).row (Row.new w [.int .i64 t.k, .int .i64 t.a, .int .i64 t.t, .int .i64 t.e] 35)
  have r2 := Go.heap_alloc_new (w.alloc (.cells #[.int .i64 t.k, .int .i64 t.a, .int .i64 t.t, .int .i64 t.e] 35)) (.cells c2 t2)
  rw [sz1] at r2
  have s1 := gb_row h r1 (by omega)
  have s2 := gb_row h r2 (by omega)
  exact ⟨k_rowC s1 0 rfl, k_rowC s1 1 rfl, k_rowC s1 2 rfl, k_rowC s1 3 rfl, fun j => k_rowF s1 j, fun i v hv => k_rowC s2 i hv, fun j => k_rowF s2 j⟩
theorem gb_drew {a b : World} {r : Option Nat} (h : a.drew.grownBy b r) : a.grownBy b r := ⟨h.os, h.tape, h.output, h.size, h.block⟩

/-- Behind a call of final. -/
structure FnI (w w1 : World) (B N : Nat) (ga : Option Addr) (gc n : Nat) (F : Nat → Nat) (fin : List Int) : Prop where
  tr : TrS w1 B N ga gc n fin
  inv : FinI F [] fin
  gb : w.grownBy w1 (some N)
theorem FnI.set {w w1 : World} {B N : Nat} {ga : Option Addr} {gc n : Nat} {F : Nat → Nat} {fin : List Int} (h : FnI w w1 B N ga gc n F fin) (hB : B < w.heap.size) (hN : N < w.heap.size) {b : Nat} (hb : w.heap.size ≤ b) (i : Nat) (v : Value) : FnI w (w1.setCell ⟨b, i, none⟩ v) B N ga gc n F fin :=
  ⟨⟨h.tr.box.other (by omega) _ _, h.tr.row.other (by omega) _ _, h.tr.len⟩, h.inv, gb_setNew h.gb hb _⟩

set_option maxHeartbeats 2000000 in
theorem ledT_w (t : RT) (B N : Nat) (ga : Option Addr) (gc : Nat) (l : List RB) (ads : List (Option Addr × Nat)) (F : Nat → Nat) (fin : List Int) (w : World) (hn : l.length ≤ 1000000) (hF : Fwd l F)
    (hr : RepB w (fun q => q < w.heap.size ∧ q ≠ N) ga l ads) (hT : TrS w B N ga gc l.length fin) (hI : FinI F [] fin) :
    Calls Try.prog 32 #[rtV t, .func (.func 28) #[.pointer (some ⟨B, 0, none⟩)] #[]] w fun e w' => e = .returned (rtV (ledP (fz l.length F) t)) ∧ ∃ fin2, FnI w w' B N ga gc l.length F fin2 := by
  have hBw : B < w.heap.size := k_lt hT.box
  have hNw : N < w.heap.size := k_lt hT.row
  have HB := hide hBw
  have HN := hide hNw
  have HFn := hide (fun (W : World) (fin : List Int) (z : Int) (x : w.grownBy W (some N)) (tt : TrS W B N ga gc l.length fin) (ii : FinI F [] fin) => final_w B N ga gc l ads F fin z W hn hF (hr.to fun b hb => ⟨⟨Nat.lt_of_lt_of_le hb.1 x.size, hb.2⟩, x.block b hb.1 (fun e => hb.2 (by injection e))⟩) tt ii)
  have HT := hide hT
  have HI := hide hI
  generalize l.length = n at *
  clear hr hT hI hF hBw hNw
  obtain ⟨k, a, tt, te⟩ := t
  unfold ledP
  simp only
  by_cases hk2 : k = 2
  · subst hk2
    rw [if_pos rfl]
    go_enter Try.func32, Try.ntmps32
    go_wp2_with fail
    go_region_with (first
      | (go_at_call 28; have hg := unhide G1; refine Calls.mono (unhide HFn _ _ _ (gb_trans (gb_ext (ext2 _ _) _) (unhide G1)) (unhide T1) (unhide I1)) ?_; rintro e w2 ⟨rfl, ⟨fin2, t2, i2⟩, g2⟩; have G2 := hide (gb_trans (unhide G1) g2); obtain ⟨c0, c1, c2, c3, f1, d, f2⟩ := boxT (t := ⟨2, a, tt, te⟩) (unhide G2) (unhide HN); have d0 : w2.cell? ⟨w.heap.size + 1, 0, none⟩ = some (.int .i64 0) := d 0 _ rfl; have d1 : w2.cell? ⟨w.heap.size + 1, 1, none⟩ = some (.int .i64 0) := d 1 _ rfl; have d2 : w2.cell? ⟨w.heap.size + 1, 2, none⟩ = some (.int .i64 0) := d 2 _ rfl; have d3 : w2.cell? ⟨w.heap.size + 1, 3, none⟩ = some (.int .i64 0) := d 3 _ rfl; have T2 := hide t2; have I2 := hide i2; clear t2 i2 g2 d hg)
      | (go_at_call 28; refine Calls.mono (unhide HFn _ _ _ (gb_ext (Ext.drew (ext2 _ _)) _) ((unhide HT).on (Ext.drew (ext2 _ _))) (unhide HI)) ?_; rintro e w1 ⟨rfl, ⟨fin1, t1, i1⟩, g1⟩; have G1 := hide (gb_drew g1); have c3 := (boxT (t := ⟨2, a, tt, te⟩) (gb_drew g1) (unhide HN)).2.2.2.1; have T1 := hide t1; have I1 := hide i1; clear t1 i1 g1))
    all_goals
      have K2 : Hd (FnI w w2 B N ga gc n F fin2) := ⟨unhide T2, unhide I2, gb_trans (gb_ext (ext2 _ _) _) (unhide G2)⟩
      go_wp2_with fail
      exact bodyPost_ret (v := rtV ⟨2, a, fz n F tt, fz n F te⟩) (by simp [results, Try.results32, go_sem, d0, d1, d2, d3]) rfl ⟨rfl, fin2, FnI.set (FnI.set (FnI.set (FnI.set (FnI.set (FnI.set (unhide K2) (unhide HB) (unhide HN) (Nat.le_refl _) _ _) (unhide HB) (unhide HN) (Nat.le_refl _) _ _) (unhide HB) (unhide HN) (Nat.le_succ _) _ _) (unhide HB) (unhide HN) (Nat.le_succ _) _ _) (unhide HB) (unhide HN) (Nat.le_succ _) _ _) (unhide HB) (unhide HN) (Nat.le_succ _) _ _⟩
  · rw [if_neg hk2]
    have e2 : (k == 2) = false := by simp [hk2]
    by_cases hk1 : k = 1
    · subst hk1
      rw [if_pos rfl]
      go_enter Try.func32, Try.ntmps32
      go_wp2_with (go_at_call 28; refine Calls.mono (unhide HFn _ _ _ (gb_ext (ext2 _ _) _) ((unhide HT).on (ext2 _ _)) (unhide HI)) ?_; rintro e w2 ⟨rfl, ⟨fin2, t2, i2⟩, g2⟩; have G2 := hide g2; obtain ⟨c0, c1, c2, c3, f1, d, f2⟩ := boxT (t := ⟨1, a, tt, te⟩) g2 (unhide HN); have d0 : w2.cell? ⟨w.heap.size + 1, 0, none⟩ = some (.int .i64 0) := d 0 _ rfl; have d1 : w2.cell? ⟨w.heap.size + 1, 1, none⟩ = some (.int .i64 0) := d 1 _ rfl; have d2 : w2.cell? ⟨w.heap.size + 1, 2, none⟩ = some (.int .i64 0) := d 2 _ rfl; have d3 : w2.cell? ⟨w.heap.size + 1, 3, none⟩ = some (.int .i64 0) := d 3 _ rfl; have T2 := hide t2; have I2 := hide i2; clear t2 i2 g2 d)
      have K2 : Hd (FnI w w2 B N ga gc n F fin2) := ⟨unhide T2, unhide I2, gb_trans (gb_ext (ext2 _ _) _) (unhide G2)⟩
      exact bodyPost_ret (v := rtV ⟨1, a, fz n F tt, te⟩) (by simp [results, Try.results32, go_sem, d0, d1, d2, d3]) rfl ⟨rfl, fin2, FnI.set (FnI.set (FnI.set (FnI.set (FnI.set (unhide K2) (unhide HB) (unhide HN) (Nat.le_refl _) _ _) (unhide HB) (unhide HN) (Nat.le_succ _) _ _) (unhide HB) (unhide HN) (Nat.le_succ _) _ _) (unhide HB) (unhide HN) (Nat.le_succ _) _ _) (unhide HB) (unhide HN) (Nat.le_succ _) _ _⟩
    · rw [if_neg hk1]
      have e1 : (k == 1) = false := by simp [hk1]
      go_enter Try.func32, Try.ntmps32
      go_wp2_with fail
      exact bodyPost_ret (v := rtV ⟨k, a, tt, te⟩) (by simp [results, Try.results32, go_sem]) rfl ⟨rfl, fin, ⟨(unhide HT).on (ext2 _ _), unhide HI, gb_ext (ext2 _ _) _⟩⟩

end Go.Proofs.Ytdnhekgbfhlhoaa
