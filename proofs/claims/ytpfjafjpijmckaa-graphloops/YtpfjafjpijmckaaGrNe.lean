/- A nest: what it is that a world holds it. -/
import Derived.Test.YtpfjafjpijmckaaGrDo
import Derived.Test.YtpfjafjpijmckaaGrA2
set_option linter.unusedSimpArgs false
set_option linter.unusedVariables false
set_option maxRecDepth 10000
namespace Go.Proofs.Ytpfjafjpijmckaa
open Go.RowKit

/-- The world holds a nest: its own block, what leads to each point (blocks from lo up to hi), the rows first, last, heads, outer, top, and the row open that grows. -/
structure NsS (wp w0 w : World) (M Pb F1 L1 H O T lo hi n : Nat) (z : GZ) (st : GN) (oa : Option Addr) (oc : Nat) : Prop where
  ext : Ext w0 w
  bs : w0.heap.size ≤ M ∧ w0.heap.size ≤ H ∧ w0.heap.size ≤ O ∧ w0.heap.size ≤ T
  nd : M ≠ F1 ∧ M ≠ L1 ∧ M ≠ H ∧ M ≠ O ∧ M ≠ T ∧ F1 ≠ H ∧ F1 ≠ O ∧ F1 ≠ T ∧ L1 ≠ H ∧ L1 ≠ O ∧ L1 ≠ T ∧ H ≠ O ∧ H ≠ T ∧ O ≠ T
  np : (M < lo ∨ hi ≤ M) ∧ (H < lo ∨ hi ≤ H) ∧ (O < lo ∨ hi ≤ O) ∧ (T < lo ∨ hi ≤ T) ∧ hi ≤ w.heap.size
  rM : Row w M 58 [slV Pb n, slV F1 n, slV L1 n, slV H n, slV O n, slV T n, .slice oa st.opn.length oc]
  rF : Row w F1 3 (os z.first)
  rL : Row w L1 3 (os z.last)
  rH : Row w H 4 (bsV st.heads)
  rO : Row w O 3 (os st.outer)
  rT : Row w T 3 (ns st.top)
  rP : RepG wp (fun q => lo ≤ q ∧ q < hi) (some ⟨Pb, 0, none⟩) (gUpG z.ps)
  sm : ∀ q, lo ≤ q ∧ q < hi → w.heap[q]? = wp.heap[q]?
  len : z.first.length = n ∧ z.last.length = n ∧ z.ps.length = n ∧ st.heads.length = n ∧ st.outer.length = n ∧ st.top.length = n
  oO : w.ownsRow w0.heap.size 3 1 (.slice oa st.opn.length oc) st.opn.length (ns st.opn)
  aO : ∀ k, obk oa = some k → k ≠ M ∧ k ≠ F1 ∧ k ≠ L1 ∧ k ≠ H ∧ k ≠ O ∧ k ≠ T ∧ (k < lo ∨ hi ≤ k)

section
variable {wp w0 w w' : World} {M Pb F1 L1 H O T lo hi n : Nat} {z : GZ} {st : GN} {oa : Option Addr} {oc : Nat}
theorem NsS.on (h : NsS wp w0 w M Pb F1 L1 H O T lo hi n z st oa oc) (k : Ext w w') : NsS wp w0 w' M Pb F1 L1 H O T lo hi n z st oa oc := by
  have hp := h.np
  have hs := k.size
  exact ⟨h.ext.trans k, h.bs, h.nd, ⟨hp.1, hp.2.1, hp.2.2.1, hp.2.2.2.1, by omega⟩, h.rM.on k, h.rF.on k, h.rL.on k, h.rH.on k, h.rO.on k, h.rT.on k, h.rP, (fun q hq => (k.block q (by omega)).trans (h.sm q hq)), h.len, k_own_heap h.oO (fun i hi => k.block i (h.oO.lt i hi).2), h.aO⟩
theorem NsS.setH (h : NsS wp w0 w M Pb F1 L1 H O T lo hi n z st oa oc) (p : Nat) (x : Bool) : NsS wp w0 (w.setCell ⟨H, p, none⟩ (.bool x)) M Pb F1 L1 H O T lo hi n z ⟨st.heads.set p x, st.outer, st.top, st.opn⟩ oa oc := by
  obtain ⟨b1, b2, b3, b4⟩ := h.bs
  obtain ⟨p1, p2, p3, p4, p5⟩ := h.np
  have hz : (w.setCell ⟨H, p, none⟩ (.bool x)).heap.size = w.heap.size := by simp [World.setCell]
  have pb : ∀ q, lo ≤ q ∧ q < hi → q ≠ H := fun q hq e => by subst e; omega
  obtain ⟨n1, n2, n3, n4, n5, n6, n7, n8, n9, n10, n11, n12, n13, n14⟩ := h.nd
  refine ⟨h.ext.set (p := ⟨H, p, none⟩) (by show w0.heap.size ≤ H; assumption) _, h.bs, h.nd, ⟨p1, p2, p3, p4, by rw [hz]; exact p5⟩, h.rM.other (by first | assumption | exact Ne.symm (by assumption)) _ _, h.rF.other (by first | assumption | exact Ne.symm (by assumption)) _ _, h.rL.other (by first | assumption | exact Ne.symm (by assumption)) _ _, ?r, h.rO.other (by first | assumption | exact Ne.symm (by assumption)) _ _, h.rT.other (by first | assumption | exact Ne.symm (by assumption)) _ _, h.rP, (fun q hq => (Below.heap_setCell _ _ _ _ (pb q hq)).trans (h.sm q hq)), ⟨h.len.1, h.len.2.1, h.len.2.2.1, (by rw [List.length_set]; exact h.len.2.2.2.1), h.len.2.2.2.2.1, h.len.2.2.2.2.2⟩, k_own_heap h.oO (fun i hi => Below.heap_setCell _ _ _ _ ?o), h.aO⟩
  case r => rw [← bs_set]; exact h.rH.set p _
  case o =>
    rw [obk_eq] at hi
    obtain ⟨q1, q2, q3, q4, q5, q6, q7⟩ := h.aO i hi
    show i ≠ H
    assumption
theorem NsS.setO (h : NsS wp w0 w M Pb F1 L1 H O T lo hi n z st oa oc) (p : Nat) (x : Option Nat) : NsS wp w0 (w.setCell ⟨O, p, none⟩ (.int .i64 (oI x))) M Pb F1 L1 H O T lo hi n z ⟨st.heads, st.outer.set p x, st.top, st.opn⟩ oa oc := by
  obtain ⟨b1, b2, b3, b4⟩ := h.bs
  obtain ⟨p1, p2, p3, p4, p5⟩ := h.np
  have hz : (w.setCell ⟨O, p, none⟩ (.int .i64 (oI x))).heap.size = w.heap.size := by simp [World.setCell]
  have pb : ∀ q, lo ≤ q ∧ q < hi → q ≠ O := fun q hq e => by subst e; omega
  obtain ⟨n1, n2, n3, n4, n5, n6, n7, n8, n9, n10, n11, n12, n13, n14⟩ := h.nd
  refine ⟨h.ext.set (p := ⟨O, p, none⟩) (by show w0.heap.size ≤ O; assumption) _, h.bs, h.nd, ⟨p1, p2, p3, p4, by rw [hz]; exact p5⟩, h.rM.other (by first | assumption | exact Ne.symm (by assumption)) _ _, h.rF.other (by first | assumption | exact Ne.symm (by assumption)) _ _, h.rL.other (by first | assumption | exact Ne.symm (by assumption)) _ _, h.rH.other (by first | assumption | exact Ne.symm (by assumption)) _ _, ?r, h.rT.other (by first | assumption | exact Ne.symm (by assumption)) _ _, h.rP, (fun q hq => (Below.heap_setCell _ _ _ _ (pb q hq)).trans (h.sm q hq)), ⟨h.len.1, h.len.2.1, h.len.2.2.1, h.len.2.2.2.1, (by rw [List.length_set]; exact h.len.2.2.2.2.1), h.len.2.2.2.2.2⟩, k_own_heap h.oO (fun i hi => Below.heap_setCell _ _ _ _ ?o), h.aO⟩
  case r => rw [← os_set]; exact h.rO.set p _
  case o =>
    rw [obk_eq] at hi
    obtain ⟨q1, q2, q3, q4, q5, q6, q7⟩ := h.aO i hi
    show i ≠ O
    assumption
theorem NsS.setT (h : NsS wp w0 w M Pb F1 L1 H O T lo hi n z st oa oc) (p : Nat) (x : Nat) : NsS wp w0 (w.setCell ⟨T, p, none⟩ (.int .i64 (x : Int))) M Pb F1 L1 H O T lo hi n z ⟨st.heads, st.outer, st.top.set p x, st.opn⟩ oa oc := by
  obtain ⟨b1, b2, b3, b4⟩ := h.bs
  obtain ⟨p1, p2, p3, p4, p5⟩ := h.np
  have hz : (w.setCell ⟨T, p, none⟩ (.int .i64 (x : Int))).heap.size = w.heap.size := by simp [World.setCell]
  have pb : ∀ q, lo ≤ q ∧ q < hi → q ≠ T := fun q hq e => by subst e; omega
  obtain ⟨n1, n2, n3, n4, n5, n6, n7, n8, n9, n10, n11, n12, n13, n14⟩ := h.nd
  refine ⟨h.ext.set (p := ⟨T, p, none⟩) (by show w0.heap.size ≤ T; assumption) _, h.bs, h.nd, ⟨p1, p2, p3, p4, by rw [hz]; exact p5⟩, h.rM.other (by first | assumption | exact Ne.symm (by assumption)) _ _, h.rF.other (by first | assumption | exact Ne.symm (by assumption)) _ _, h.rL.other (by first | assumption | exact Ne.symm (by assumption)) _ _, h.rH.other (by first | assumption | exact Ne.symm (by assumption)) _ _, h.rO.other (by first | assumption | exact Ne.symm (by assumption)) _ _, ?r, h.rP, (fun q hq => (Below.heap_setCell _ _ _ _ (pb q hq)).trans (h.sm q hq)), ⟨h.len.1, h.len.2.1, h.len.2.2.1, h.len.2.2.2.1, h.len.2.2.2.2.1, (by rw [List.length_set]; exact h.len.2.2.2.2.2)⟩, k_own_heap h.oO (fun i hi => Below.heap_setCell _ _ _ _ ?o), h.aO⟩
  case r => rw [← ns_set]; exact h.rT.set p _
  case o =>
    rw [obk_eq] at hi
    obtain ⟨q1, q2, q3, q4, q5, q6, q7⟩ := h.aO i hi
    show i ≠ T
    assumption
theorem NsS.pop (h : NsS wp w0 w M Pb F1 L1 H O T lo hi n z st oa oc) (k : Nat) (hk : k + 1 = st.opn.length) : NsS wp w0 (w.setCell ⟨M, 6, none⟩ (.slice oa k oc)) M Pb F1 L1 H O T lo hi n z ⟨st.heads, st.outer, st.top, st.opn.dropLast⟩ oa oc := by
  obtain ⟨p1, p2, p3, p4, p5⟩ := h.np
  have hz : (w.setCell ⟨M, 6, none⟩ (.slice oa k oc)).heap.size = w.heap.size := by simp [World.setCell]
  have pb : ∀ q, lo ≤ q ∧ q < hi → q ≠ M := fun q hq e => by subst e; omega
  have ho := k_own_prefix (m := k) h.oO (by omega)
  have hdl : st.opn.dropLast.length = k := by rw [List.length_dropLast]; omega
  have e : (ns st.opn).take (k * 1) = ns st.opn.dropLast := by
    rw [Nat.mul_one, List.dropLast_eq_take, show st.opn.length - 1 = k by omega]
    simp [ns, List.map_take]
  rw [e] at ho
  obtain ⟨n1, n2, n3, n4, n5, n6, n7, n8, n9, n10, n11, n12, n13, n14⟩ := h.nd
  refine ⟨h.ext.set (p := ⟨M, 6, none⟩) h.bs.1 _, h.bs, h.nd, ⟨p1, p2, p3, p4, by rw [hz]; exact p5⟩, ?r, h.rF.other (Ne.symm n1) _ _, h.rL.other (Ne.symm n2) _ _, h.rH.other (Ne.symm n3) _ _, h.rO.other (Ne.symm n4) _ _, h.rT.other (Ne.symm n5) _ _, h.rP, (fun q hq => (Below.heap_setCell _ _ _ _ (pb q hq)).trans (h.sm q hq)), h.len, ?ow, h.aO⟩
  case r =>
    have := h.rM.set 6 (.slice oa k oc)
    rw [hdl]
    exact this
  case ow =>
    rw [hdl]
    refine k_own_heap ho (fun i hi => Below.heap_setCell _ _ _ _ ?_)
    rw [obk_eq] at hi
    exact (h.aO i hi).1
theorem NsS.push {w3 : World} {ob : Obj} {g' cap' : Nat} (h : NsS wp w0 w M Pb F1 L1 H O T lo hi n z st oa oc) (x : Nat)
    (g1 : (w.alloc ob).grownBy w3 (Value.slice oa st.opn.length oc).ownBlock)
    (ho : w3.ownsRow w0.heap.size 3 1 (.slice (some ⟨g', 0, none⟩) (st.opn.length + 1) cap') (st.opn.length + 1) (ns st.opn ++ [.int .i64 (x : Int)]))
    (hw : (Value.slice oa st.opn.length oc).ownBlock = some g' ∨ w.heap.size + 1 ≤ g') :
    NsS wp w0 (w3.setCell ⟨M, 6, none⟩ (.slice (some ⟨g', 0, none⟩) (st.opn.length + 1) cap')) M Pb F1 L1 H O T lo hi n z ⟨st.heads, st.outer, st.top, st.opn ++ [x]⟩ (some ⟨g', 0, none⟩) cap' := by
  obtain ⟨p1, p2, p3, p4, p5⟩ := h.np
  have pb : ∀ q, lo ≤ q ∧ q < hi → q ≠ M := fun q hq e => by subst e; omega
  have l1 := k_lt h.rM
  have l2 := k_lt h.rF
  have l3 := k_lt h.rL
  have l4 := k_lt h.rH
  have l5 := k_lt h.rO
  have l6 := k_lt h.rT
  rw [obk_eq] at g1 hw
  have ng : ∀ k, k < w.heap.size → obk oa ≠ some k → k ≠ g' := fun k hk hne e => by
    subst e
    rcases hw with e | e
    · exact hne e
    · omega
  have m1 : obk oa ≠ some M := fun e => (h.aO M e).1 rfl
  have m2 : obk oa ≠ some F1 := fun e => (h.aO F1 e).2.1 rfl
  have m3 : obk oa ≠ some L1 := fun e => (h.aO L1 e).2.2.1 rfl
  have m4 : obk oa ≠ some H := fun e => (h.aO H e).2.2.2.1 rfl
  have m5 : obk oa ≠ some O := fun e => (h.aO O e).2.2.2.2.1 rfl
  have m6 : obk oa ≠ some T := fun e => (h.aO T e).2.2.2.2.2.1 rfl
  have hk := h.on (Ext.alloc w ob)
  have e3 : Ext w0 w3 := by
    refine Below.grown hk.ext g1 hk.ext.size ?_
    intro j hj
    exact (hk.oO.lt j (by rw [obk_eq]; exact hj)).1
  have hz : (w.alloc ob).heap.size = w.heap.size + 1 := Array.size_push ..
  have hz3 := g1.size
  have hz4 : (w3.setCell ⟨M, 6, none⟩ (.slice (some ⟨g', 0, none⟩) (st.opn.length + 1) cap')).heap.size = w3.heap.size := by simp [World.setCell]
  have hz5 : hi ≤ (w3.setCell ⟨M, 6, none⟩ (.slice (some ⟨g', 0, none⟩) (st.opn.length + 1) cap')).heap.size := by omega
  have hz6 : ∀ q, lo ≤ q ∧ q < hi → q < (w.alloc ob).heap.size := fun q hq => by omega
  have hz7 : ∀ q, lo ≤ q ∧ q < hi → some q ≠ obk oa := fun q hq e => by have := (h.aO q e.symm).2.2.2.2.2.2; omega
  obtain ⟨n1, n2, n3, n4, n5, n6, n7, n8, n9, n10, n11, n12, n13, n14⟩ := h.nd
  refine ⟨e3.set (p := ⟨M, 6, none⟩) h.bs.1 _, h.bs, h.nd, ⟨p1, p2, p3, p4, hz5⟩, ?_, (hk.rF.grown g1 (Ne.symm m2)).other (Ne.symm n1) _ _, (hk.rL.grown g1 (Ne.symm m3)).other (Ne.symm n2) _ _, (hk.rH.grown g1 (Ne.symm m4)).other (Ne.symm n3) _ _, (hk.rO.grown g1 (Ne.symm m5)).other (Ne.symm n4) _ _, (hk.rT.grown g1 (Ne.symm m6)).other (Ne.symm n5) _ _, h.rP, (fun q hq => ((Below.heap_setCell _ _ _ _ (pb q hq)).trans (g1.block q (hz6 q hq) (hz7 q hq))).trans (hk.sm q hq)), h.len, ?_, ?_⟩
  · have := (hk.rM.grown g1 (Ne.symm m1)).set 6 (.slice (some ⟨g', 0, none⟩) (st.opn.length + 1) cap')
    simpa using this
  · have := k_own_heap (W := w3.setCell ⟨M, 6, none⟩ (.slice (some ⟨g', 0, none⟩) (st.opn.length + 1) cap')) ho (fun i hi => Below.heap_setCell _ _ _ _ (by simp only [Value.ownBlock, Option.some.injEq] at hi; subst hi; exact Ne.symm (ng M l1 m1)))
    simpa [ns] using this
  · intro k e
    simp only [obk, Value.ownBlock, Option.some.injEq] at e
    subst e
    refine ⟨Ne.symm (ng M l1 m1), Ne.symm (ng F1 l2 m2), Ne.symm (ng L1 l3 m3), Ne.symm (ng H l4 m4), Ne.symm (ng O l5 m5), Ne.symm (ng T l6 m6), ?_⟩
    rcases hw with e | e
    · exact (h.aO g' e).2.2.2.2.2.2
    · clear n1 n2 n3 n4 n5 n6 n7 n8 n9 n10 n11 n12 n13 n14
      omega
end

end Go.Proofs.Ytpfjafjpijmckaa
