/- The writer of parse: an operator and its operands. -/
import Derived.Test.YtgkiihjakbnhcaaGreatDoorZc41
set_option linter.unusedSimpArgs false
set_option linter.unusedVariables false
set_option maxRecDepth 10000

namespace Go.Proofs.YtgkiihjakbnhcaaGreatDoor
open Go.RowKit

/-- The five cells of one tree of a list, in whatever world the writer has come to. -/
def Ch5 (W : World) (b off : Nat) (c0 c1 c2 c3 c4 : Value) : Prop := W.cell? ⟨b, off, none⟩ = some c0 ∧ W.cell? ⟨b, off + 1, none⟩ = some c1 ∧ W.cell? ⟨b, off + 2, none⟩ = some c2 ∧ W.cell? ⟨b, off + 3, none⟩ = some c3 ∧ W.cell? ⟨b, off + 4, none⟩ = some c4

theorem enterExpr (v u t : Value) (W : World) : (callFunc 33 #[v, u, t]).run Tryz.prog W = .ok (.enter 33 #[v, u, t]) W := by kernel_rfl
/-- A call as one step of a region that draws its order, also where it is guarded. -/
theorem step_call_xs {P : Program} {w : World} {ops : Array Oper} {o : Oper} {a : Act} {K : Act → World → Prop} {Q : Exit → Act → World → Prop} {E : Prop}
    (f : FuncId) (xs : Array Operand) (ts : Array TypeId) (hop : o.op = Op.call { callee := Callee.value (.func f), args := xs, argTypes := ts })
    (vs : Array Value) (hx : xs.map a.eval = vs) (hw : Region.wanted o (yielded ops a.tmps) = true) (hf : (callFunc f vs).run P w = .ok (.enter f vs) w) (hK : Calls P f vs w fun e w' => ∃ u, e = .returned u ∧ K (a.put o.dst u) w') :
    if Region.wanted o (yielded ops a.tmps) = true then Oper.wp P o a w K Q else E := by
  rw [if_pos hw]
  have he : a.eval (.func f) = .func (.func f) #[] #[] := rfl
  unfold Oper.wp
  have hrun : (execOp a.eval o).run P w = .ok (.enter f vs) w := by
    simp [execOp, hop, resolve, invoke, hx, he, Result.andThen, Deferred.ofValue, hf]
  rw [hrun, Oper.upon_enter]
  refine hK.mono ?_
  rintro e w' ⟨u, rfl, h⟩
  exact h

set_option maxHeartbeats 1000000 in
theorem joined_w (g : Nat) (E : PN → Int → WS3 → Option WS3) (o : Opr) (l : List PN) (a : Option Addr) (cap : Nat) (x y : WS3) (w : World) (I : WrI w g x) (hN : RepNL w (fun b => b < g) l a) (hE : ExW g E) (ho : o.s.size ≤ 1000) (hlv : 1 ≤ o.lv ∧ o.lv ≤ 7) (hy : wJ E o l x = some y) :
    Calls Tryz.prog 84 #[.pointer (some ⟨g, 0, none⟩), oprV o, .slice a l.length cap] w (WrE g w y) := by
  have HE := hide hE
  have hg := I.wr.lt
  have HW1 : Hd (WrK g w (w.alloc (oprO o))) := WrK.ext (Ext.alloc _ _) hg
  have X0 : Hd (WrI (w.alloc (oprO o)) g x) := I.ext (Ext.alloc _ _)
  have K0 : Hd (WrK g (w.alloc (oprO o)) (w.alloc (oprO o))) := WrK.refl _ _
  have HBx : Hd (∀ W, WrK g (w.alloc (oprO o)) W → W.cell? ⟨w.heap.size, 0, none⟩ = some (.string o.s) ∧ W.cell? ⟨w.heap.size, 1, none⟩ = some (.int .i64 o.lv)) := fun W k => by
    have h0 := Go.heap_alloc_new w (oprO o)
    have hr := (k.keep w.heap.size (by rw [size_alloc]; omega) (by omega) (oprO_not h0)).trans h0
    exact ⟨rowC hr 0 rfl, rowC hr 1 rfl⟩
  have ho2 : o.s.size ≤ 100000000 := by omega
  have HO := hide ho2
  clear I hE hg ho ho2
  unfold wJ at hy
  by_cases h6 : o.lv = 6
  · rw [if_pos h6] at hy
    match l, hy, hN with
    | [p], hy', hN' =>
      clear hy hN
      have hy := hy'
      have hN := hN'
      clear hy' hN'
      simp only at hy
      obtain ⟨b, off, c0, c1, c2, c3, c4, rfl, hb, hr, e0, e1, e2, e3, e4⟩ := repNL_at hN 0 p rfl
      rw [Nat.zero_mul, Nat.add_zero] at e0 e1 e2 e3 e4
      have HC0 : Hd (∀ W, WrK g (w.alloc (oprO o)) W → Ch5 W b off c0 c1 c2 c3 c4) := fun W k => by
        have hk := ((unhide HW1).trans k).low b hb
        refine ⟨?_, ?_, ?_, ?_, ?_⟩ <;> (rw [World.cell?_of_block (w := w) hk]; assumption)
      have HT0 : Hd (∀ W, WrK g (w.alloc (oprO o)) W → RepN W (fun b => b < g) p (.agg #[c0, c1, c2, c3, c4])) := fun W k => hr.wrk ((unhide HW1).trans k)
      have HY0 := hide hy
      obtain ⟨d00, d01, d02, d03, d04⟩ := unhide HC0 _ (unhide K0)
      clear hy hN hr e0 e1 e2 e3 e4
      have hl1 : ([p] : List PN).length = 1 := rfl
      rw [hl1]
      obtain ⟨os, olv, okd, oop⟩ := o
      simp only at h6 HW1 X0 K0 HBx HC0 HT0 HY0 HO hlv
      subst h6
      go_enter Tryz.func84, Tryz.ntmps84
      go_wp2_with (first
        | (have T9 := unhide X0; go_at_call 55; refine Calls.mono (words1 g _ os _ _ (by first | rfl | simp) T9 (unhide HO)) ?_; rintro e w1 ⟨rfl, h9, l9, k9⟩; have K1 := hide ((unhide K0).trans k9); have X1 := hide ((unhide X0).go k9 h9 l9); obtain ⟨rb0, rb1⟩ := unhide HBx _ (unhide K1); obtain ⟨d00, d01, d02, d03, d04⟩ := unhide HC0 _ (unhide K1); clear h9 l9 k9 T9 X0)
        | (have T9 := unhide X1; go_at_call 33; refine Calls.mono (unhide HE _ 6 _ _ _ _ (unhide HY0) T9 (unhide HT0 _ (unhide K1))) ?_; rintro e w2 ⟨rfl, h9, l9, k9⟩; have K2 := hide ((unhide K1).trans k9); have X2 := hide ((unhide X1).go k9 h9 l9); obtain ⟨rb0, rb1⟩ := unhide HBx _ (unhide K2); obtain ⟨d00, d01, d02, d03, d04⟩ := unhide HC0 _ (unhide K2); clear h9 l9 k9 T9 X1))
      go_end0
      exact ⟨rfl, (unhide X2).wr, (unhide X2).len, (unhide HW1).trans (unhide K2)⟩
  · rw [if_neg h6] at hy
    match l, hy, hN with
    | [p, r], hy', hN' =>
      clear hy hN
      have hy := hy'
      have hN := hN'
      clear hy' hN'
      simp only at hy
      obtain ⟨b, off, c0, c1, c2, c3, c4, rfl, hb, hr, e0, e1, e2, e3, e4⟩ := repNL_at hN 0 p rfl
      obtain ⟨b2, off2, f0, f1, f2, f3, f4, he, _, hr2, g0, g1, g2, g3, g4⟩ := repNL_at hN 1 r rfl
      injection he with he
      injection he with he1 he2
      subst he1 he2
      rw [Nat.zero_mul, Nat.add_zero] at e0 e1 e2 e3 e4
      rw [Nat.one_mul] at g0 g1 g2 g3 g4
      have HC0 : Hd (∀ W, WrK g (w.alloc (oprO o)) W → Ch5 W b off c0 c1 c2 c3 c4) := fun W k => by
        have hk := ((unhide HW1).trans k).low b hb
        refine ⟨?_, ?_, ?_, ?_, ?_⟩ <;> (rw [World.cell?_of_block (w := w) hk]; assumption)
      have HC1 : Hd (∀ W, WrK g (w.alloc (oprO o)) W → Ch5 W b (off + 5) f0 f1 f2 f3 f4) := fun W k => by
        have hk := ((unhide HW1).trans k).low b hb
        refine ⟨?_, ?_, ?_, ?_, ?_⟩ <;> (rw [World.cell?_of_block (w := w) hk]; assumption)
      have HT0 : Hd (∀ W, WrK g (w.alloc (oprO o)) W → RepN W (fun b => b < g) p (.agg #[c0, c1, c2, c3, c4])) := fun W k => hr.wrk ((unhide HW1).trans k)
      have HT1 : Hd (∀ W, WrK g (w.alloc (oprO o)) W → RepN W (fun b => b < g) r (.agg #[f0, f1, f2, f3, f4])) := fun W k => hr2.wrk ((unhide HW1).trans k)
      obtain ⟨d00, d01, d02, d03, d04⟩ := unhide HC0 _ (unhide K0)
      obtain ⟨d10, d11, d12, d13, d14⟩ := unhide HC1 _ (unhide K0)
      clear hN hr hr2 e0 e1 e2 e3 e4 g0 g1 g2 g3 g4
      have hl1 : ([p, r] : List PN).length = 2 := rfl
      rw [hl1]
      obtain ⟨os, olv, okd, oop⟩ := o
      simp only at h6 HW1 X0 K0 HBx HC0 HC1 HT0 HT1 HO hy hlv
      by_cases h7 : olv = 7
      · rw [if_pos h7] at hy
        subst h7
        cases hq : E p 7 x with
        | none => rw [hq] at hy; cases hy
        | some z =>
        rw [hq] at hy
        simp only at hy
        cases hq2 : E r 1 (wW z [⟨#[91]⟩]) with
        | none => rw [hq2] at hy; cases hy
        | some u =>
        rw [hq2] at hy
        injection hy with hy
        subst hy
        have HY0 := hide hq
        have HY1 := hide hq2
        clear hq hq2 h6
        go_enter Tryz.func84, Tryz.ntmps84
        go_wp2_with (first
          | (have T9 := unhide X0; go_at_call 33; refine Calls.mono (unhide HE _ 7 _ _ _ _ (unhide HY0) T9 (unhide HT0 _ (unhide K0))) ?_; rintro e w1 ⟨rfl, h9, l9, k9⟩; have K1 := hide ((unhide K0).trans k9); have X1 := hide ((unhide X0).go k9 h9 l9); obtain ⟨rb0, rb1⟩ := unhide HBx _ (unhide K1); obtain ⟨d00, d01, d02, d03, d04⟩ := unhide HC0 _ (unhide K1); obtain ⟨d10, d11, d12, d13, d14⟩ := unhide HC1 _ (unhide K1); clear h9 l9 k9 T9 X0)
          | (have T9 := unhide X1; go_at_call 55; refine Calls.mono (words1 g _ ⟨#[91]⟩ _ _ (by first | rfl | simp) T9 (by decide)) ?_; rintro e w2 ⟨rfl, h9, l9, k9⟩; have K2 := hide ((unhide K1).trans k9); have X2 := hide ((unhide X1).go k9 h9 l9); obtain ⟨rb0, rb1⟩ := unhide HBx _ (unhide K2); obtain ⟨d00, d01, d02, d03, d04⟩ := unhide HC0 _ (unhide K2); obtain ⟨d10, d11, d12, d13, d14⟩ := unhide HC1 _ (unhide K2); clear h9 l9 k9 T9 X1)
          | (have T9 := unhide X2; go_at_call 33; refine Calls.mono (unhide HE _ 1 _ _ _ _ (unhide HY1) T9 (unhide HT1 _ (unhide K2))) ?_; rintro e w3 ⟨rfl, h9, l9, k9⟩; have K3 := hide ((unhide K2).trans k9); have X3 := hide ((unhide X2).go k9 h9 l9); obtain ⟨rb0, rb1⟩ := unhide HBx _ (unhide K3); obtain ⟨d00, d01, d02, d03, d04⟩ := unhide HC0 _ (unhide K3); obtain ⟨d10, d11, d12, d13, d14⟩ := unhide HC1 _ (unhide K3); clear h9 l9 k9 T9 X2)
          | (have T9 := unhide X3; go_at_call 55; refine Calls.mono (words1 g _ ⟨#[93]⟩ _ _ (by first | rfl | simp) T9 (by decide)) ?_; rintro e w4 ⟨rfl, h9, l9, k9⟩; have K4 := hide ((unhide K3).trans k9); have X4 := hide ((unhide X3).go k9 h9 l9); obtain ⟨rb0, rb1⟩ := unhide HBx _ (unhide K4); obtain ⟨d00, d01, d02, d03, d04⟩ := unhide HC0 _ (unhide K4); obtain ⟨d10, d11, d12, d13, d14⟩ := unhide HC1 _ (unhide K4); clear h9 l9 k9 T9 X3))
        go_end0
        exact ⟨rfl, (unhide X4).wr, (unhide X4).len, (unhide HW1).trans (unhide K4)⟩
      · rw [if_neg h7] at hy
        by_cases h3 : olv = 3
        · rw [if_pos h3] at hy
          subst h3
          cases hq : E p 4 x with
          | none => rw [hq] at hy; cases hy
          | some z =>
          rw [hq] at hy
          simp only at hy
          have HY0 := hide hq
          have HY1 := hide hy
          clear hq hy h6 h7
          go_enter Tryz.func84, Tryz.ntmps84
          go_wp2_with (first
            | (have T9 := unhide X0; go_at_call 33; refine Calls.mono (unhide HE _ 4 _ _ _ _ (unhide HY0) T9 (unhide HT0 _ (unhide K0))) ?_; rintro e w1 ⟨rfl, h9, l9, k9⟩; have K1 := hide ((unhide K0).trans k9); have X1 := hide ((unhide X0).go k9 h9 l9); obtain ⟨rb0, rb1⟩ := unhide HBx _ (unhide K1); obtain ⟨d00, d01, d02, d03, d04⟩ := unhide HC0 _ (unhide K1); obtain ⟨d10, d11, d12, d13, d14⟩ := unhide HC1 _ (unhide K1); clear h9 l9 k9 T9 X0)
            | (have T9 := unhide X1; go_at_call 55; refine Calls.mono (words1 g _ os _ _ (by first | rfl | simp) T9 (unhide HO)) ?_; rintro e w2 ⟨rfl, h9, l9, k9⟩; have K2 := hide ((unhide K1).trans k9); have X2 := hide ((unhide X1).go k9 h9 l9); obtain ⟨rb0, rb1⟩ := unhide HBx _ (unhide K2); obtain ⟨d00, d01, d02, d03, d04⟩ := unhide HC0 _ (unhide K2); obtain ⟨d10, d11, d12, d13, d14⟩ := unhide HC1 _ (unhide K2); clear h9 l9 k9 T9 X1)
            | (have T9 := unhide X2; go_at_call 33; refine Calls.mono (unhide HE _ 4 _ _ _ _ (unhide HY1) T9 (unhide HT1 _ (unhide K2))) ?_; rintro e w3 ⟨rfl, h9, l9, k9⟩; have K3 := hide ((unhide K2).trans k9); have X3 := hide ((unhide X2).go k9 h9 l9); obtain ⟨rb0, rb1⟩ := unhide HBx _ (unhide K3); obtain ⟨d00, d01, d02, d03, d04⟩ := unhide HC0 _ (unhide K3); obtain ⟨d10, d11, d12, d13, d14⟩ := unhide HC1 _ (unhide K3); clear h9 l9 k9 T9 X2))
          go_end0
          exact ⟨rfl, (unhide X3).wr, (unhide X3).len, (unhide HW1).trans (unhide K3)⟩
        · rw [if_neg h3] at hy
          cases hq : E p olv x with
          | none => rw [hq] at hy; cases hy
          | some z =>
          rw [hq] at hy
          simp only at hy
          have HY0 := hide hq
          have HY1 := hide hy
          have n6 : (olv == 6) = false := by rw [beq_eq_false_iff_ne]; exact h6
          have n7 : (olv == 7) = false := by rw [beq_eq_false_iff_ne]; exact h7
          have n3 : (olv == 3) = false := by rw [beq_eq_false_iff_ne]; exact h3
          clear hq hy h6 h7 h3
          have hwr : IntKind.i64.wrap (olv + 1) = olv + 1 := by
            rcases (show olv = 1 ∨ olv = 2 ∨ olv = 3 ∨ olv = 4 ∨ olv = 5 ∨ olv = 6 ∨ olv = 7 by omega) with rfl | rfl | rfl | rfl | rfl | rfl | rfl <;> rfl
          have HWR := hide hwr
          clear hwr
          go_enter Tryz.func84, Tryz.ntmps84
          go_wp2_with fail
          have X0d : Hd (WrI (w.alloc (oprO ⟨os, olv, okd, oop⟩)).drew g x) := (unhide X0).ext (Ext.drew (Ext.refl _))
          have K0d : Hd (WrK g (w.alloc (oprO ⟨os, olv, okd, oop⟩)) (w.alloc (oprO ⟨os, olv, okd, oop⟩)).drew) := (unhide K0).drew
          refine wp_nrm ?_
          first | skip; go_region_law (refine step_call_xs 33 #[.tmp 8, .tmp 11, .tmp 13] #[92, 28, 3] rfl #[.pointer (some ⟨g, 0, none⟩), .agg #[c0, c1, c2, c3, c4], .int .i64 olv] (by simp [Act.eval, Act.put]) (by simp [Region.wanted, yielded, Act.put]) (enterExpr _ _ _ _) (Calls.mono (unhide HE _ olv _ _ _ _ (unhide HY0) (unhide X0d) (unhide HT0 _ (unhide K0d))) ?_); rintro e w1 ⟨rfl, h9, l9, k9⟩; have K1 := hide ((unhide K0d).trans k9); have X1 := hide ((unhide X0d).go k9 h9 l9); obtain ⟨rb0, rb1⟩ := unhide HBx _ (unhide K1); clear h9 l9 k9; refine ⟨_, rfl, ?_⟩) | fail
          all_goals
            simp only [Nrm]
            go_wp2_with (have T9 := unhide X1; go_at_call 55; refine Calls.mono (words1 g _ os _ _ (by first | rfl | simp) T9 (unhide HO)) ?_; rintro e w2 ⟨rfl, h9, l9, k9⟩; have K2 := hide ((unhide K1).trans k9); have X2 := hide ((unhide X1).go k9 h9 l9); obtain ⟨rb0, rb1⟩ := unhide HBx _ (unhide K2); obtain ⟨d10, d11, d12, d13, d14⟩ := unhide HC1 _ (unhide K2); clear h9 l9 k9 T9 X1)
            have X2d : Hd (WrI w2.drew g (wW z [os])) := (unhide X2).ext (Ext.drew (Ext.refl _))
            have K2d : Hd (WrK g (w.alloc (oprO ⟨os, olv, okd, oop⟩)) w2.drew) := (unhide K2).drew
            refine wp_nrm ?_
            first | skip; go_region_law (refine step_call_xs 33 #[.tmp 20, .tmp 23, .tmp 26] #[92, 28, 3] rfl #[.pointer (some ⟨g, 0, none⟩), .agg #[f0, f1, f2, f3, f4], .int .i64 (olv + 1)] (by simp [Act.eval, Act.put, unhide HWR]) (by simp [Region.wanted, yielded, Act.put]) (enterExpr _ _ _ _) (Calls.mono (unhide HE _ (olv + 1) _ _ _ _ (unhide HY1) (unhide X2d) (unhide HT1 _ (unhide K2d))) ?_); rintro e w3 ⟨rfl, h9, l9, k9⟩; have K3 := hide ((unhide K2d).trans k9); have X3 := hide ((unhide X2d).go k9 h9 l9); clear h9 l9 k9; refine ⟨_, rfl, ?_⟩) | fail
            all_goals
              simp only [Nrm]
              go_end0
              exact ⟨rfl, (unhide X3).wr, (unhide X3).len, (unhide HW1).trans (unhide K3)⟩

end Go.Proofs.YtgkiihjakbnhcaaGreatDoor
