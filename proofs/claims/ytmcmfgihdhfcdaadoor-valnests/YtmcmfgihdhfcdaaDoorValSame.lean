/- Two values that are one: equal and Same tell so, whose parts are nought. -/
import Derived.Test.YtmcmfgihdhfcdaaDoorValAwake
set_option linter.unusedSimpArgs false
set_option maxRecDepth 10000
namespace Go.Proofs.YtmcmfgihdhfcdaaDoor
open Go.RowKit

theorem step_call_two {P : Program} {w : World} {ops : Array Oper} {o : Oper} {a : Act} {K : Act → World → Prop} {Q : Exit → Act → World → Prop} {E : Prop}
    (hg : o.guard = none) (f : FuncId) (x y : Operand) (t u : TypeId) (hop : o.op = Op.call { callee := Callee.value (.func f), args := #[x, y], argTypes := #[t, u] })
    (v v' : Value) (hx : a.eval x = v) (hy : a.eval y = v') (hf : (callFunc f #[v, v']).run P w = .ok (.enter f #[v, v']) w) (hK : Calls P f #[v, v'] w fun e w' => ∃ r, e = .returned r ∧ K (a.put o.dst r) w') :
    if Region.wanted o (yielded ops a.tmps) = true then Oper.wp P o a w K Q else E := by
  have hw : Region.wanted o (yielded ops a.tmps) = true := by simp [Region.wanted, hg]
  rw [if_pos hw]
  have he : a.eval (.func f) = .func (.func f) #[] #[] := rfl
  unfold Oper.wp
  have hrun : (execOp a.eval o).run P w = .ok (.enter f #[v, v']) w := by
    simp [execOp, hop, resolve, invoke, hx, hy, he, Result.andThen, Deferred.ofValue, hf]
  rw [hrun, Oper.upon_enter]
  refine hK.mono ?_
  rintro e w' ⟨r, rfl, h⟩
  exact h

theorem same00 (w : World) : Calls Tryd.prog 38 #[.complex .f64 0 0, .complex .f64 0 0] w fun e w' => e = .returned (.bool true) ∧ w' = w :=
  same_any 0 0 0 0 w (by unfold Wd; decide) (by unfold Wd; decide) (by unfold Wd; decide) (by unfold Wd; decide)

def EqSelf (p : PV) : Prop := ∀ (v v' : Value) (w : World), Rep w (In w) p v → Rep w (In w) p v' → Calls Tryd.prog 24 #[v, v'] w fun e w' => e = .returned (.bool true) ∧ Ext w w'

theorem enterEqual (v v' : Value) (w : World) : (callFunc 24 #[v, v']).run Tryd.prog w = .ok (.enter 24 #[v, v']) w := by kernel_rfl
theorem enterTaken (v : Value) (w : World) : (callFunc 20 #[v]).run Tryd.prog w = .ok (.enter 20 #[v]) w := by kernel_rfl

theorem equal_self (k n : Int) (s : ByteArray) (l : List PV) (ih : ∀ x ∈ l, EqSelf x) : EqSelf (.mk k n 0 0 s l) := by
  intro v v' w hr hr'
  rw [Rep] at hr hr'
  obtain ⟨a, cap, rfl, hb, hl⟩ := hr
  obtain ⟨a', cap', rfl, hb', hl'⟩ := hr'
  have h1 := hb.bl
  have h2 := hb.bc
  have h3 := hb'.bc
  have H := hide hl
  have H' := hide hl'
  have I := hide ih
  clear hl hl' ih hb hb'
  go_enter Tryd.func24, Tryd.ntmps24
  go_wp2_with (go_at_call 38; refine Calls.mono (same00 _) ?_; rintro e w' ⟨rfl, rfl⟩)
  go_loopw [46] (fun i wr => ∃ j : Nat, i = .int .i64 j ∧ j ≤ l.length ∧ Ext ((w.alloc (.cells #[.int .i64 k, .int .i64 n, .complex .f64 0 0, .string s, .slice a l.length cap] 25)).alloc (.cells #[.int .i64 k, .int .i64 n, .complex .f64 0 0, .string s, .slice a' l.length cap'] 25)) wr) (fun i _ => l.length - (intOf i).toNat)
  case atStart => exact ⟨0, rfl, by omega, Ext.refl _⟩
  case round =>
    obtain ⟨j, rfl, hj, hE⟩ := hrel
    by_cases hlt : j < l.length
    · obtain ⟨x, hx⟩ : ∃ x, l[j]? = some x := ⟨l[j], List.getElem?_eq_getElem hlt⟩
      have hE0 : Ext w wr := ((Ext.alloc _ _).trans (Ext.alloc _ _)).trans hE
      obtain ⟨b, off, a2, c2, rfl, hEl⟩ := RepL.get (RepL.ext (unhide H) hE0) j x hx
      obtain ⟨b', off', a3, c3, rfl, hEl'⟩ := RepL.get (RepL.ext (unhide H') hE0) j x hx
      have g0 := hEl.c0
      have g1 := hEl.c1
      have g2 := hEl.c2
      have g3 := hEl.c3
      have g4 := hEl.c4
      have k0 := hEl'.c0
      have k1 := hEl'.c1
      have k2 := hEl'.c2
      have k3 := hEl'.c3
      have k4 := hEl'.c4
      have hb1 : b < wr.heap.size := hEl.f
      have hb2 : b' < wr.heap.size := hEl'.f
      have hbx := hE.box 4 rfl
      simp only [heap_alloc_size] at hbx
      have hsz : w.heap.size + 1 < wr.heap.size := by have := hE.le; simp at this; omega
      have hc := unhide I x (List.mem_of_getElem? hx) _ _ (wr.alloc (.cells #[.int .i64 x.k, .int .i64 x.n, .complex .f64 x.re x.im, .string x.s, .slice a2 x.l.length c2] 25)).drew (hEl.rep.ext (Ext.drew (Ext.alloc _ _))) (hEl'.rep.ext (Ext.drew (Ext.alloc _ _)))
      have C := hide hc
      have E := hide hE
      have DR := hide (Ext.drew (Ext.alloc wr (.cells #[.int .i64 x.k, .int .i64 x.n, .complex .f64 x.re x.im, .string x.s, .slice a2 x.l.length c2] 25)))
      clear hEl hEl' hc hE hE0 hx
      go_wp2_with fail
      go_region_law (refine step_call_two rfl 24 (.tmp 51) (.tmp 56) 25 25 rfl _ _ (by simp [Act.eval, Act.put]) (by simp [Act.eval, Act.put]) (enterEqual _ _ _) (Calls.mono (unhide C) ?_); rintro e w2 ⟨rfl, hw2⟩; have W2 := hide hw2; clear hw2; refine ⟨_, rfl, ?_⟩)
      all_goals
        go_wp2_with fail
        go_roundw
        case rel => exact ⟨j + 1, by go_num, by omega, ((unhide E).trans (unhide DR)).trans (unhide W2)⟩
        case measure => simp [intOf]; omega
    · have : j = l.length := by omega
      subst this
      go_wp2_with fail
      go_ret
      exact ⟨rfl, ((Ext.alloc _ _).trans (Ext.alloc _ _)).trans hE⟩

end Go.Proofs.YtmcmfgihdhfcdaaDoor
