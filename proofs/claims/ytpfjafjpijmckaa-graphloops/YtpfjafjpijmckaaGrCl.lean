/- A climb: what it is that a world holds it. -/
import Derived.Test.YtpfjafjpijmckaaGrA1
set_option linter.unusedSimpArgs false
set_option linter.unusedVariables false
set_option maxRecDepth 10000
namespace Go.Proofs.Ytpfjafjpijmckaa
open Go.RowKit

/-- The world holds a climb: its own block, the rows number, up, low, entries, and the row way that grows. -/
structure ClS (w0 w : World) (C Nb U L E n m : Nat) (c : GC) (wa : Option Addr) (wc : Nat) : Prop where
  ext : Ext w0 w
  bs : w0.heap.size ≤ C ∧ w0.heap.size ≤ Nb ∧ w0.heap.size ≤ U ∧ w0.heap.size ≤ L ∧ w0.heap.size ≤ E
  nd : C ≠ Nb ∧ C ≠ U ∧ C ≠ L ∧ C ≠ E ∧ Nb ≠ U ∧ Nb ≠ L ∧ Nb ≠ E ∧ U ≠ L ∧ U ≠ E ∧ L ≠ E
  rC : Row w C 53 [slV Nb n, slV U m, slV L m, slV E m, .slice wa c.way.length wc]
  rNb : Row w Nb 3 (os c.num)
  rU : Row w U 3 (ns c.up)
  rL : Row w L 3 (ns c.low)
  rE : Row w E 3 (ns c.ent)
  len : c.num.length = n ∧ c.up.length = m ∧ c.low.length = m ∧ c.ent.length = m
  oW : w.ownsRow w0.heap.size 3 1 (.slice wa c.way.length wc) c.way.length (ns c.way)
  aW : ∀ k, obk wa = some k → k ≠ C ∧ k ≠ Nb ∧ k ≠ U ∧ k ≠ L ∧ k ≠ E

section
variable {w0 w w' : World} {C Nb U L E n m : Nat} {c : GC} {wa : Option Addr} {wc : Nat}
theorem ClS.on (h : ClS w0 w C Nb U L E n m c wa wc) (k : Ext w w') : ClS w0 w' C Nb U L E n m c wa wc :=
  ⟨h.ext.trans k, h.bs, h.nd, h.rC.on k, h.rNb.on k, h.rU.on k, h.rL.on k, h.rE.on k, h.len, k_own_heap h.oW (fun i hi => k.block i (h.oW.lt i hi).2), h.aW⟩
theorem ClS.setU (h : ClS w0 w C Nb U L E n m c wa wc) (p x : Nat) : ClS w0 (w.setCell ⟨U, p, none⟩ (.int .i64 (x : Int))) C Nb U L E n m ⟨c.num, c.up.set p x, c.low, c.ent, c.way⟩ wa wc := by
  obtain ⟨n1, n2, n3, n4, n5, n6, n7, n8, n9, n10⟩ := h.nd
  obtain ⟨b1, b2, b3, b4, b5⟩ := h.bs
  refine ⟨h.ext.set (p := ⟨U, p, none⟩) (by show w0.heap.size ≤ U; omega) _, h.bs, h.nd, h.rC.other (by omega) _ _, h.rNb.other (by omega) _ _, ?r, h.rL.other (by omega) _ _, h.rE.other (by omega) _ _, ⟨h.len.1, (by rw [List.length_set]; exact h.len.2.1), h.len.2.2.1, h.len.2.2.2⟩, k_own_heap h.oW (fun i hi => Below.heap_setCell _ _ _ _ ?o), h.aW⟩
  case r => rw [← ns_set]; exact h.rU.set p _
  case o =>
    rw [obk_eq] at hi
    have := h.aW i hi
    show i ≠ U
    omega
theorem ClS.setL (h : ClS w0 w C Nb U L E n m c wa wc) (p x : Nat) : ClS w0 (w.setCell ⟨L, p, none⟩ (.int .i64 (x : Int))) C Nb U L E n m ⟨c.num, c.up, c.low.set p x, c.ent, c.way⟩ wa wc := by
  obtain ⟨n1, n2, n3, n4, n5, n6, n7, n8, n9, n10⟩ := h.nd
  obtain ⟨b1, b2, b3, b4, b5⟩ := h.bs
  refine ⟨h.ext.set (p := ⟨L, p, none⟩) (by show w0.heap.size ≤ L; omega) _, h.bs, h.nd, h.rC.other (by omega) _ _, h.rNb.other (by omega) _ _, h.rU.other (by omega) _ _, ?r, h.rE.other (by omega) _ _, ⟨h.len.1, h.len.2.1, (by rw [List.length_set]; exact h.len.2.2.1), h.len.2.2.2⟩, k_own_heap h.oW (fun i hi => Below.heap_setCell _ _ _ _ ?o), h.aW⟩
  case r => rw [← ns_set]; exact h.rL.set p _
  case o =>
    rw [obk_eq] at hi
    have := h.aW i hi
    show i ≠ L
    omega
theorem ClS.setE (h : ClS w0 w C Nb U L E n m c wa wc) (p x : Nat) : ClS w0 (w.setCell ⟨E, p, none⟩ (.int .i64 (x : Int))) C Nb U L E n m ⟨c.num, c.up, c.low, c.ent.set p x, c.way⟩ wa wc := by
  obtain ⟨n1, n2, n3, n4, n5, n6, n7, n8, n9, n10⟩ := h.nd
  obtain ⟨b1, b2, b3, b4, b5⟩ := h.bs
  refine ⟨h.ext.set (p := ⟨E, p, none⟩) (by show w0.heap.size ≤ E; omega) _, h.bs, h.nd, h.rC.other (by omega) _ _, h.rNb.other (by omega) _ _, h.rU.other (by omega) _ _, h.rL.other (by omega) _ _, ?r, ⟨h.len.1, h.len.2.1, h.len.2.2.1, (by rw [List.length_set]; exact h.len.2.2.2)⟩, k_own_heap h.oW (fun i hi => Below.heap_setCell _ _ _ _ ?o), h.aW⟩
  case r => rw [← ns_set]; exact h.rE.set p _
  case o =>
    rw [obk_eq] at hi
    have := h.aW i hi
    show i ≠ E
    omega
theorem ClS.cut (h : ClS w0 w C Nb U L E n m c wa wc) : ClS w0 (w.setCell ⟨C, 4, none⟩ (.slice wa 0 wc)) C Nb U L E n m ⟨c.num, c.up, c.low, c.ent, []⟩ wa wc := by
  obtain ⟨n1, n2, n3, n4, n5, n6, n7, n8, n9, n10⟩ := h.nd
  have ho := k_own_prefix (m := 0) h.oW (by omega)
  rw [Nat.zero_mul, List.take_zero] at ho
  refine ⟨h.ext.set (p := ⟨C, 4, none⟩) h.bs.1 _, h.bs, h.nd, ?r, h.rNb.other (by omega) _ _, h.rU.other (by omega) _ _, h.rL.other (by omega) _ _, h.rE.other (by omega) _ _, h.len, k_own_heap ho (fun i hi => Below.heap_setCell _ _ _ _ ?o), h.aW⟩
  case r => exact h.rC.set 4 (.slice wa 0 wc)
  case o =>
    rw [obk_eq] at hi
    exact (h.aW i hi).1
theorem ClS.pushW {w3 : World} {ob : Obj} {g' cap' : Nat} (h : ClS w0 w C Nb U L E n m c wa wc) (x : Nat)
    (g1 : (w.alloc ob).grownBy w3 (Value.slice wa c.way.length wc).ownBlock)
    (ho : w3.ownsRow w0.heap.size 3 1 (.slice (some ⟨g', 0, none⟩) (c.way.length + 1) cap') (c.way.length + 1) (ns c.way ++ [.int .i64 (x : Int)]))
    (hw : (Value.slice wa c.way.length wc).ownBlock = some g' ∨ w.heap.size + 1 ≤ g') :
    ClS w0 (w3.setCell ⟨C, 4, none⟩ (.slice (some ⟨g', 0, none⟩) (c.way.length + 1) cap')) C Nb U L E n m ⟨c.num, c.up, c.low, c.ent, c.way ++ [x]⟩ (some ⟨g', 0, none⟩) cap' := by
  obtain ⟨n1, n2, n3, n4, n5, n6, n7, n8, n9, n10⟩ := h.nd
  have l1 := k_lt h.rC
  have l2 := k_lt h.rNb
  have l3 := k_lt h.rU
  have l4 := k_lt h.rL
  have l5 := k_lt h.rE
  rw [obk_eq] at g1 hw
  have ng : ∀ k, k < w.heap.size → obk wa ≠ some k → k ≠ g' := fun k hk hne e => by
    subst e
    rcases hw with e | e
    · exact hne e
    · omega
  have m1 : obk wa ≠ some C := fun e => (h.aW C e).1 rfl
  have m2 : obk wa ≠ some Nb := fun e => (h.aW Nb e).2.1 rfl
  have m3 : obk wa ≠ some U := fun e => (h.aW U e).2.2.1 rfl
  have m4 : obk wa ≠ some L := fun e => (h.aW L e).2.2.2.1 rfl
  have m5 : obk wa ≠ some E := fun e => (h.aW E e).2.2.2.2 rfl
  have hk := h.on (Ext.alloc w ob)
  have e3 : Ext w0 w3 := by
    refine Below.grown hk.ext g1 hk.ext.size ?_
    intro j hj
    exact (hk.oW.lt j (by rw [obk_eq]; exact hj)).1
  refine ⟨e3.set (p := ⟨C, 4, none⟩) h.bs.1 _, h.bs, h.nd, ?_, (hk.rNb.grown g1 (Ne.symm m2)).other (by omega) _ _, (hk.rU.grown g1 (Ne.symm m3)).other (by omega) _ _, (hk.rL.grown g1 (Ne.symm m4)).other (by omega) _ _, (hk.rE.grown g1 (Ne.symm m5)).other (by omega) _ _, h.len, ?_, ?_⟩
  · have := (hk.rC.grown g1 (Ne.symm m1)).set 4 (.slice (some ⟨g', 0, none⟩) (c.way.length + 1) cap')
    simpa using this
  · have := k_own_heap (W := w3.setCell ⟨C, 4, none⟩ (.slice (some ⟨g', 0, none⟩) (c.way.length + 1) cap')) ho (fun i hi => Below.heap_setCell _ _ _ _ (by simp only [Value.ownBlock, Option.some.injEq] at hi; subst hi; exact Ne.symm (ng C l1 m1)))
    simpa [ns] using this
  · intro k e
    simp only [obk, Value.ownBlock, Option.some.injEq] at e
    subst e
    exact ⟨Ne.symm (ng C l1 m1), Ne.symm (ng Nb l2 m2), Ne.symm (ng U l3 m3), Ne.symm (ng L l4 m4), Ne.symm (ng E l5 m5)⟩
end

end Go.Proofs.Ytpfjafjpijmckaa
