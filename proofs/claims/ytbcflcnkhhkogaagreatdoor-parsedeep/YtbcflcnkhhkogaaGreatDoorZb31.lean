/- The writer of parse: what it holds; fail, told, enter. -/
import Derived.Test.YtbcflcnkhhkogaaGreatDoorZb30
set_option linter.unusedSimpArgs false
set_option linter.unusedVariables false
set_option maxRecDepth 10000

namespace Go.Proofs.YtbcflcnkhhkogaaGreatDoor
open Go.RowKit

abbrev wrO (v : Value) (n : Int) (b : Bool) : Obj := .cells #[v, .int .i64 n, .bool b] 68 (0, 0)
/-- The block g holds a writer with the text l, of its own, behind g; n nodes gone into; b: there can be no text. -/
structure Wr (w : World) (g : Nat) (l : List UInt8) (n : Int) (b : Bool) : Prop where
  ex : ∃ v, w.heap[g]? = some (wrO v n b) ∧ w.ownsRow (g + 1) 5 1 v l.length (l.map B)

theorem Wr.lt {w : World} {g : Nat} {l : List UInt8} {n : Int} {b : Bool} (h : Wr w g l n b) : g < w.heap.size := by
  obtain ⟨v, h1, _⟩ := h.ex
  exact (Array.getElem?_eq_some_iff.1 h1).1
theorem Wr.ext {w w' : World} {g : Nat} {l : List UInt8} {n : Int} {b : Bool} (h : Wr w g l n b) (k : Ext w w') : Wr w' g l n b := by
  obtain ⟨v, h1, h2⟩ := h.ex
  exact ⟨v, k.row h1, own_ext h2 k⟩
theorem own_set {w : World} {g i : Nat} {v x : Value} {n : Nat} {xs : List Value} (h : w.ownsRow (g + 1) 5 1 v n xs) : (w.setCell ⟨g, i, none⟩ x).ownsRow (g + 1) 5 1 v n xs := by
  obtain ⟨h1, h2 | ⟨b, cap, cur, h3, h4, h5, h6⟩⟩ := h
  · exact ⟨h1, Or.inl h2⟩
  · exact ⟨h1, Or.inr ⟨b, cap, cur, h3, h4, row_other h5 (by omega) _ _, h6⟩⟩

/-- No row of bytes. -/
def NotB (o : Option Obj) : Prop := ∀ cs f, o ≠ some (.cells cs 5 f)
/-- Of what stood only the writer's block g and rows of bytes behind it may have turned. -/
structure WrK (g : Nat) (w w' : World) : Prop where
  os : w'.os = w.os
  tape : w'.tape = w.tape
  output : w'.output = w.output
  size : w.heap.size ≤ w'.heap.size
  low : ∀ k, k < g → w'.heap[k]? = w.heap[k]?
  keep : ∀ k, k < w.heap.size → k ≠ g → NotB (w.heap[k]?) → w'.heap[k]? = w.heap[k]?
theorem WrK.refl (g : Nat) (w : World) : WrK g w w := ⟨rfl, rfl, rfl, Nat.le_refl _, fun _ _ => rfl, fun _ _ _ _ => rfl⟩
theorem WrK.trans {g : Nat} {a b c : World} (h : WrK g a b) (k : WrK g b c) : WrK g a c :=
  ⟨k.os.trans h.os, k.tape.trans h.tape, k.output.trans h.output, Nat.le_trans h.size k.size, fun i hi => (k.low i hi).trans (h.low i hi), fun i h1 h2 h3 => by
    have e := h.keep i h1 h2 h3
    exact (k.keep i (Nat.lt_of_lt_of_le h1 h.size) h2 (by rw [e]; exact h3)).trans e⟩
theorem WrK.ext {g : Nat} {a b : World} (h : Ext a b) (hg : g < a.heap.size) : WrK g a b := ⟨h.os, h.tape, h.output, h.size, fun k hk => h.block k (by omega), fun k hk _ _ => h.block k hk⟩
theorem WrK.setg {g : Nat} {a b : World} (h : WrK g a b) (i : Nat) (v : Value) : WrK g a (b.setCell ⟨g, i, none⟩ v) :=
  ⟨h.os, h.tape, h.output, by simp [World.setCell]; exact h.size, fun k hk => (Below.heap_setCell _ _ _ _ (by simp only; omega)).trans (h.low k hk), fun k h1 h2 h3 => (Below.heap_setCell _ _ _ _ h2).trans (h.keep k h1 h2 h3)⟩
theorem WrK.below {g : Nat} {a b : World} (h : WrK g a b) : Below g a b := ⟨h.os, h.tape, h.output, h.size, h.low⟩
theorem WrK.drew {g : Nat} {a b : World} (h : WrK g a b) : WrK g a b.drew := ⟨h.os, h.tape, h.output, h.size, h.low, h.keep⟩
theorem WrK.grown {g k : Nat} {w W w1 : World} {t : Value} {xs : List Value} (hb : WrK g w W) (ho : W.ownsRow (g + 1) 5 1 t k xs) (hgl : g < W.heap.size) (hgrow : W.grownBy w1 t.ownBlock) : WrK g w w1 := by
  refine hb.trans ⟨hgrow.os, hgrow.tape, hgrow.output, hgrow.size, fun j hj => hgrow.block j (by omega) (fun e => ?_), fun j h1 h2 h3 => hgrow.block j h1 (fun e => ?_)⟩
  · have := (ho.lt j e.symm).1
    omega
  · obtain ⟨_, h | ⟨b, cap, cur, h, _, hrow, _⟩⟩ := ho
    · rw [h.1] at e; cases e
    · rw [h] at e
      have hjb : j = b := Option.some.inj e
      subst hjb
      exact h3 _ _ hrow

set_option maxHeartbeats 1000000 in
theorem wfail_any (g : Nat) (l : List UInt8) (n : Int) (b : Bool) (w : World) (h : Wr w g l n b) :
    Calls Tryz.prog 69 #[.pointer (some ⟨g, 0, none⟩)] w fun e w' => e = .returned (.tuple #[]) ∧ Wr w' g l n true ∧ WrK g w w' := by
  obtain ⟨v, h1, h2⟩ := h.ex
  have r2 := rowC h1 2 rfl
  have rf := rowF h1
  have H1 := hide h1
  have H2 := hide h2
  clear h h1 h2
  go_enter Tryz.func69, Tryz.ntmps69
  go_wp2_with fail
  go_end0
  exact ⟨rfl, ⟨v, row_set (unhide H1) 2 _, own_set (unhide H2)⟩, (WrK.refl g w).setg _ _⟩

set_option maxHeartbeats 1000000 in
theorem told_any (g : Nat) (l : List UInt8) (n : Int) (b : Bool) (w : World) (h : Wr w g l n b) :
    Calls Tryz.prog 32 #[.pointer (some ⟨g, 0, none⟩)] w fun e w' => e = .returned (if b then .tuple #[.string ⟨#[]⟩, .bool false] else .tuple #[.string ⟨l.toArray⟩, .bool true]) ∧ w' = w := by
  obtain ⟨v, h1, h2⟩ := h.ex
  have r0 := rowC h1 0 rfl
  have r2 := rowC h1 2 rfl
  have hcv := run_text_of_row h2
  clear h h1 h2
  cases b
  · go_enter Tryz.func32, Tryz.ntmps32
    go_wp2_with fail
    exact bodyPost_ret (v := .tuple #[.string ⟨l.toArray⟩, .bool true]) (by simp [results, Tryz.results32]) rfl ⟨rfl, rfl⟩
  · go_enter Tryz.func32, Tryz.ntmps32
    go_wp2_with fail
    exact bodyPost_ret (v := .tuple #[.string ⟨#[]⟩, .bool false]) (by simp [results, Tryz.results32]) rfl ⟨rfl, rfl⟩

/-- One more node is gone into: 2000 of them at most. -/
def entN (n : Int) (b : Bool) : Bool := b || decide (2000 < n + 1)
set_option maxHeartbeats 1000000 in
theorem wenter_any (g : Nat) (l : List UInt8) (n : Int) (b : Bool) (w : World) (h : Wr w g l n b) (hn : 0 ≤ n) (hn2 : n ≤ 100000) :
    Calls Tryz.prog 63 #[.pointer (some ⟨g, 0, none⟩)] w fun e w' => e = .returned (.bool (!(entN n b))) ∧ Wr w' g l (n + 1) (entN n b) ∧ WrK g w w' := by
  obtain ⟨v, h1, h2⟩ := h.ex
  have r1 := rowC h1 1 rfl
  have r2 := rowC h1 2 rfl
  have rf := rowF h1
  have S1 : Hd (Wr (w.setCell ⟨g, 1, none⟩ (.int .i64 (n + 1))) g l (n + 1) b) := ⟨v, row_set h1 1 _, own_set h2⟩
  have HF := hide (wfail_any g l (n + 1) b _ (unhide S1))
  have hB : Hd (WrK g w (w.setCell ⟨g, 1, none⟩ (.int .i64 (n + 1)))) := (WrK.refl g w).setg _ _
  clear h h1 h2
  by_cases hc : 2000 < n + 1
  · have hE : entN n b = true := by unfold entN; simp [hc]
    rw [hE]
    go_enter Tryz.func63, Tryz.ntmps63
    go_wp2_with (go_at_call 69; refine Calls.mono (unhide HF) ?_; rintro e w2 ⟨rfl, hs, hw⟩; have c2 : w2.cell? ⟨g, 2, none⟩ = some (.bool true) := (by obtain ⟨T, h1, _⟩ := hs.ex; exact rowC h1 2 rfl); have S2 := hide hs; have B2 := hide ((unhide hB).trans hw); clear hs hw)
    go_ret
    exact ⟨rfl, unhide S2, unhide B2⟩
  · have hE : entN n b = b := by unfold entN; simp [hc]
    rw [hE]
    go_enter Tryz.func63, Tryz.ntmps63
    go_wp2_with fail
    go_ret
    exact ⟨rfl, unhide S1, unhide hB⟩

end Go.Proofs.YtbcflcnkhhkogaaGreatDoor
