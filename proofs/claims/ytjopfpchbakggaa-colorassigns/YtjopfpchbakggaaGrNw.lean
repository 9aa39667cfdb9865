/- A walk that is made; the walk through all points that are come to. -/
import Derived.Test.YtjopfpchbakggaaGrFr
set_option linter.unusedSimpArgs false
set_option linter.unusedVariables false
set_option maxRecDepth 10000
namespace Go.Proofs.Ytjopfpchbakggaa
open Go.RowKit

/-- The rows of a walk, its block not made yet. -/
structure NwI (w0 w : World) (S N Y n : Nat) : Prop where
  ext : Ext w0 w
  bs : w0.heap.size ≤ S ∧ w0.heap.size ≤ N ∧ w0.heap.size ≤ Y
  nd : S ≠ N ∧ S ≠ Y ∧ N ≠ Y
  rS : Row w S 4 (bsV (List.replicate n false))
  rN : Row w N 3 (ns (List.replicate n 0))
  rY : Row w Y 3 (os (List.replicate n none))

def nwB (n : Nat) : Obj := .cells (bsV (List.replicate n false)).toArray 4
def nwN (n : Nat) : Obj := .cells (ns (List.replicate n 0)).toArray 3
theorem sz1 (w : World) (o : Obj) : (w.alloc o).heap.size = w.heap.size + 1 := Array.size_push ..
theorem rowB (w : World) (n : Nat) : Row (w.alloc (nwB n)) w.heap.size 4 (bsV (List.replicate n false)) := Row.new _ _ _
theorem rowN (w : World) (n : Nat) : Row (w.alloc (nwN n)) w.heap.size 3 (ns (List.replicate n 0)) := Row.new _ _ _
theorem nw1 {w w1 : World} {b n : Nat} (E : Ext ((w.alloc (nwB n)).alloc (nwN n)).drew w1) (hb : ((w.alloc (nwB n)).alloc (nwN n)).drew.heap.size ≤ b) (R : Row w1 b 3 (os (List.replicate n none))) : NwI w w1 w.heap.size (w.heap.size + 1) b n := by
  have hb : ((w.alloc (nwB n)).alloc (nwN n)).heap.size ≤ b := hb
  have E : Ext ((w.alloc (nwB n)).alloc (nwN n)) w1 := (Ext.drew (Ext.refl _)).trans E
  rw [sz1, sz1] at hb
  have r2 := (rowN (w.alloc (nwB n)) n).on E
  rw [sz1] at r2
  exact ⟨((Ext.alloc _ _).trans (Ext.alloc _ _)).trans E, ⟨Nat.le_refl _, by omega, by omega⟩, ⟨by omega, by omega, by omega⟩, ((rowB w n).on (Ext.alloc _ _)).on E, r2, R⟩
theorem nw3 {w w1 : World} {b n : Nat} (E : Ext ((w.alloc (nwN n)).alloc (nwB n)).drew w1) (hb : ((w.alloc (nwN n)).alloc (nwB n)).drew.heap.size ≤ b) (R : Row w1 b 3 (os (List.replicate n none))) : NwI w w1 (w.heap.size + 1) w.heap.size b n := by
  have hb : ((w.alloc (nwN n)).alloc (nwB n)).heap.size ≤ b := hb
  have E : Ext ((w.alloc (nwN n)).alloc (nwB n)) w1 := (Ext.drew (Ext.refl _)).trans E
  rw [sz1, sz1] at hb
  have r2 := (rowB (w.alloc (nwN n)) n).on E
  rw [sz1] at r2
  exact ⟨((Ext.alloc _ _).trans (Ext.alloc _ _)).trans E, ⟨by omega, Nat.le_refl _, by omega⟩, ⟨by omega, by omega, by omega⟩, r2, ((rowN w n).on (Ext.alloc _ _)).on E, R⟩
theorem nw2 {w w1 : World} {b n : Nat} (E : Ext (w.alloc (nwB n)).drew w1) (hb : (w.alloc (nwB n)).drew.heap.size ≤ b) (R : Row w1 b 3 (os (List.replicate n none))) : NwI w (w1.alloc (nwN n)) w.heap.size w1.heap.size b n := by
  have hb : (w.alloc (nwB n)).heap.size ≤ b := hb
  have E : Ext (w.alloc (nwB n)) w1 := (Ext.drew (Ext.refl _)).trans E
  have h1 := E.size
  have h2 := k_lt R
  rw [sz1] at hb h1
  exact ⟨((Ext.alloc _ _).trans E).trans (Ext.alloc _ _), ⟨Nat.le_refl _, by omega, by omega⟩, ⟨by omega, by omega, by omega⟩, ((rowB w n).on E).on (Ext.alloc _ _), rowN _ n, R.on (Ext.alloc _ _)⟩
theorem nw4 {w w1 : World} {b n : Nat} (E : Ext (w.alloc (nwN n)).drew w1) (hb : (w.alloc (nwN n)).drew.heap.size ≤ b) (R : Row w1 b 3 (os (List.replicate n none))) : NwI w (w1.alloc (nwB n)) w1.heap.size w.heap.size b n := by
  have hb : (w.alloc (nwN n)).heap.size ≤ b := hb
  have E : Ext (w.alloc (nwN n)) w1 := (Ext.drew (Ext.refl _)).trans E
  have h1 := E.size
  have h2 := k_lt R
  rw [sz1] at hb h1
  exact ⟨((Ext.alloc _ _).trans E).trans (Ext.alloc _ _), ⟨by omega, Nat.le_refl _, by omega⟩, ⟨by omega, by omega, by omega⟩, rowB _ n, ((rowN w n).on E).on (Ext.alloc _ _), R.on (Ext.alloc _ _)⟩
theorem nw5 {w w1 : World} {b n : Nat} (E : Ext w.drew w1) (hb : w.drew.heap.size ≤ b) (R : Row w1 b 3 (os (List.replicate n none))) : NwI w ((w1.alloc (nwB n)).alloc (nwN n)) w1.heap.size (w1.heap.size + 1) b n := by
  have hb : w.heap.size ≤ b := hb
  have E : Ext w w1 := (Ext.drew (Ext.refl _)).trans E
  have h1 := E.size
  have h2 := k_lt R
  have r2 := rowN (w1.alloc (nwB n)) n
  rw [sz1] at r2
  exact ⟨(E.trans (Ext.alloc _ _)).trans (Ext.alloc _ _), ⟨by omega, by omega, by omega⟩, ⟨by omega, by omega, by omega⟩, (rowB _ n).on (Ext.alloc _ _), r2, (R.on (Ext.alloc _ _)).on (Ext.alloc _ _)⟩
theorem nw6 {w w1 : World} {b n : Nat} (E : Ext w.drew w1) (hb : w.drew.heap.size ≤ b) (R : Row w1 b 3 (os (List.replicate n none))) : NwI w ((w1.alloc (nwN n)).alloc (nwB n)) (w1.heap.size + 1) w1.heap.size b n := by
  have hb : w.heap.size ≤ b := hb
  have E : Ext w w1 := (Ext.drew (Ext.refl _)).trans E
  have h1 := E.size
  have h2 := k_lt R
  have r2 := rowB (w1.alloc (nwN n)) n
  rw [sz1] at r2
  exact ⟨(E.trans (Ext.alloc _ _)).trans (Ext.alloc _ _), ⟨by omega, by omega, by omega⟩, ⟨by omega, by omega, by omega⟩, r2, (rowN _ n).on (Ext.alloc _ _), (R.on (Ext.alloc _ _)).on (Ext.alloc _ _)⟩

end Go.Proofs.Ytjopfpchbakggaa
