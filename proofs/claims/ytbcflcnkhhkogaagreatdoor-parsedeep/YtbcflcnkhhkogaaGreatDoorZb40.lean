/- Show at a tree whose text is read as it again. -/
import Derived.Test.YtbcflcnkhhkogaaGreatDoorZb39
set_option linter.unusedSimpArgs false
set_option linter.unusedVariables false
set_option maxRecDepth 10000

namespace Go.Proofs.YtbcflcnkhhkogaaGreatDoor
open Go.RowKit

theorem ext_wrk {g : Nat} {w W2 W : World} (h : Ext w W2) (k : WrK g W2 W) (hg : w.heap.size ≤ g) : Ext w W :=
  ⟨k.os.trans h.os, k.tape.trans h.tape, k.output.trans h.output, Nat.le_trans h.size k.size, fun b hb => (k.low b (by omega)).trans (h.block b hb)⟩

set_option maxHeartbeats 1000000 in
theorem show_w (p : PN) (f f2 f3 : Nat) (l : List UInt8) (n : Int) (st : PS) (v : Value) (w : World) (he : Er w) (hO : Opx w) (hN : RepN w (InW w) p v)
    (hE : wE f p 1 (([], false), 0) = some ((l, false), n)) (hx : xrP ⟨l.toArray⟩ f2 = (p, st)) (hst : st.e = 0) (hb : bdN f3 p = true) (hl : l.length ≤ 4000) (hf : (begP ⟨l.toArray⟩).ts.length < f2) (hf2 : f2 ≤ 100000) :
    Calls Tryz.prog 17 #[v] w fun e w' => e = .returned (.tuple #[.string ⟨l.toArray⟩, .bool true]) ∧ Ext w w' := by
  have hop := opx_lt hO
  obtain ⟨pk, po, ps, pn, pl⟩ := p
  have HTr := hide (fun (W : World) (k : Ext w W) => hN.inw k)
  have HT2 : Hd (∀ W, Ext w W → RepN W (fun b => b < w.heap.size + 1) ⟨pk, po, ps, pn, pl⟩ v) := fun W k => RepN.to (fun b hb => ⟨by have : b < w.heap.size := hb; omega, k.block b hb⟩) _ _ hN
  rw [RepN] at hN
  obtain ⟨a, cap, rfl, hcap, hL⟩ := hN
  have I0 : Hd (WrI ((w.alloc (nodW pk po ps pn a pl.length cap)).alloc (wrO (.slice none 0 0) 0 false)) (w.heap.size + 1) (([], false), 0)) := by
    refine ⟨⟨.slice none 0 0, ?_, World.ownsRow_nil _ _ _ _⟩, by simp, (hO.ext (Ext.alloc _ _)).ext (Ext.alloc _ _), by omega⟩
    have := Go.heap_alloc_new (w.alloc (nodW pk po ps pn a pl.length cap)) (wrO (.slice none 0 0) 0 false)
    rw [size_alloc] at this
    exact this
  have HX2 : Hd (Ext w ((w.alloc (nodW pk po ps pn a pl.length cap)).alloc (wrO (.slice none 0 0) 0 false))) := (Ext.alloc _ _).trans (Ext.alloc _ _)
  have HEx := hide (expr_w (w.heap.size + 1) f _ 1 _ _ _ _ hE (unhide I0) (unhide HT2 _ (unhide HX2)))
  have HBx : Hd (∀ W, WrK (w.heap.size + 1) ((w.alloc (nodW pk po ps pn a pl.length cap)).alloc (wrO (.slice none 0 0) 0 false)) W → W.heap[w.heap.size]? = some (nodW pk po ps pn a pl.length cap)) := fun W k => by
    have h0 : ((w.alloc (nodW pk po ps pn a pl.length cap)).alloc (wrO (.slice none 0 0) 0 false)).heap[w.heap.size]? = some (nodW pk po ps pn a pl.length cap) := ((Ext.alloc _ _).block _ (by rw [size_alloc]; omega)).trans (Go.heap_alloc_new w _)
    exact (k.keep w.heap.size (by rw [size_alloc, size_alloc]; omega) (by omega) (nodO_not h0)).trans h0
  have HXw : Hd (∀ W, WrK (w.heap.size + 1) ((w.alloc (nodW pk po ps pn a pl.length cap)).alloc (wrO (.slice none 0 0) 0 false)) W → Ext w W) := fun W k => ext_wrk (unhide HX2) k (by omega)
  have HTd := hide (fun (W : World) (h : Wr W (w.heap.size + 1) l n false) => told_any (w.heap.size + 1) l n false W h)
  have HXp : Hd (∀ W, Ext w W → Calls Tryz.prog 9 #[.string ⟨l.toArray⟩] W fun e w' => ∃ ua uc, e = .returned (.tuple #[.agg #[.int .i64 pk, .int .i64 po, .string ps, .int .i64 pn, .slice ua pl.length uc], .int .i64 0, .int .i64 0]) ∧ RepN w' (InW w') ⟨pk, po, ps, pn, pl⟩ (.agg #[.int .i64 pk, .int .i64 po, .string ps, .int .i64 pn, .slice ua pl.length uc]) ∧ Ext W w') := fun W x => by
    refine Calls.mono (exprT_any ⟨l.toArray⟩ f2 W (he.on x) (hO.ext x) (by show l.toArray.size ≤ _; simp; omega) hf hf2) ?_
    rw [hx]
    rintro e w' ⟨hw, h9 | ⟨h9, u, rfl, ru⟩⟩
    · exact absurd hst h9.1
    · have ru2 : RepN w' (InW w') ⟨pk, po, ps, pn, pl⟩ u := RepN.to (fun b hb => ⟨hb.2, rfl⟩) _ _ ru
      have ru3 := ru2
      rw [RepN] at ru3
      obtain ⟨ua, uc, rfl, _, _⟩ := ru3
      exact ⟨ua, uc, rfl, ru2, hw⟩
  have HSm := hide (same_w f3 ⟨pk, po, ps, pn, pl⟩ hb)
  clear hE hx hb hf hf2 hO he hL hst
  generalize pl.length = m at *
  go_enter Tryz.func17, Tryz.ntmps17
  go_wp2_with (first
    | (go_at_call 31; refine Calls.mono (unhide HEx) ?_; rintro e w3 ⟨rfl, h9, l9, k9⟩; have W3 := hide h9; have hrow := unhide HBx _ k9; have X3 := hide (unhide HXw _ k9); have R3 := hide hrow; clear h9 l9 k9 hrow)
    | (go_at_call 32; refine Calls.mono (unhide HTd _ (unhide W3)) ?_; rintro e w4 ⟨rfl, hw⟩; obtain rfl := hw.symm)
    | (have T9 := unhide X3; go_at_call 9; refine Calls.mono (unhide HXp _ T9) ?_; rintro e w5 ⟨ua, uc, rfl, ru, hw⟩; have X5 := hide ((unhide X3).trans hw); have r5 := hw.row (unhide R3); have c0 := rowC r5 0 rfl; have c1 := rowC r5 1 rfl; have c2 := rowC r5 2 rfl; have c3 := rowC r5 3 rfl; have c4 := rowC r5 4 rfl; have C0 := (fun ob => (Ext.alloc w5 ob).cell c0); have C1 := (fun ob => (Ext.alloc w5 ob).cell c1); have C2 := (fun ob => (Ext.alloc w5 ob).cell c2); have C3 := (fun ob => (Ext.alloc w5 ob).cell c3); have C4 := (fun ob => (Ext.alloc w5 ob).cell c4); have U5 := hide ru; clear hw ru r5 T9)
    | (have T9 := unhide X5; go_at_call 33; refine Calls.mono (unhide HSm _ _ _ (unhide HTr _ (T9.trans (Ext.alloc _ _))) ((unhide U5).inw (Ext.alloc _ _))) ?_; rintro e w6 ⟨rfl, hw⟩; have X6 := hide ((T9.trans (Ext.alloc _ _)).trans hw); clear hw T9))
  exact bodyPost_ret (v := .tuple #[.string ⟨l.toArray⟩, .bool true]) (by simp [results, Tryz.results17, go_sem]) rfl ⟨rfl, unhide X6⟩

end Go.Proofs.YtbcflcnkhhkogaaGreatDoor
