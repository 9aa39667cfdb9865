/- A walk through points: what it is that a world holds it; which point it goes to next. -/
import Derived.Test.YtdnhekgbfhlhoaaGrRep
set_option linter.unusedSimpArgs false
set_option linter.unusedVariables false
set_option maxRecDepth 10000
namespace Go.Proofs.Ytdnhekgbfhlhoaa
open Go.RowKit

/-- The block of a slice. -/
abbrev obk (oa : Option Addr) : Option Nat := (Value.slice oa 0 0).ownBlock
theorem obk_eq (oa : Option Addr) (n c : Nat) : (Value.slice oa n c).ownBlock = obk oa := by cases oa <;> rfl

/-- The world holds a walk: its own block, the rows shut, next, by, and the two rows that grow. -/
structure WlS (w0 w : World) (B S N Y : Nat) (ga : Option Addr) (gc n : Nat) (st : GW) (ma : Option Addr) (mc : Nat) (la : Option Addr) (lc : Nat) : Prop where
  ext : Ext w0 w
  bs : w0.heap.size ≤ B ∧ w0.heap.size ≤ S ∧ w0.heap.size ≤ N ∧ w0.heap.size ≤ Y
  nd : B ≠ S ∧ B ≠ N ∧ B ≠ Y ∧ S ≠ N ∧ S ≠ Y ∧ N ≠ Y
  rB : Row w B 90 [.slice ga n gc, .slice (some ⟨S, 0, none⟩) n n, .slice (some ⟨N, 0, none⟩) n n, .slice (some ⟨Y, 0, none⟩) n n, .slice ma st.met.length mc, .slice la st.left.length lc]
  rS : Row w S 4 (bsV st.shut)
  rN : Row w N 3 (ns st.next)
  rY : Row w Y 3 (os st.wby)
  len : st.shut.length = n ∧ st.next.length = n ∧ st.wby.length = n
  oM : w.ownsRow w0.heap.size 3 1 (.slice ma st.met.length mc) st.met.length (ns st.met)
  oL : w.ownsRow w0.heap.size 3 1 (.slice la st.left.length lc) st.left.length (ns st.left)
  aM : ∀ k, obk ma = some k → k ≠ B ∧ k ≠ S ∧ k ≠ N ∧ k ≠ Y
  aL : ∀ k, obk la = some k → k ≠ B ∧ k ≠ S ∧ k ≠ N ∧ k ≠ Y
  aX : ∀ k, obk ma = some k → obk la ≠ some k

section
variable {w0 w w' : World} {B S N Y : Nat} {ga : Option Addr} {gc n : Nat} {st : GW} {ma : Option Addr} {mc : Nat} {la : Option Addr} {lc : Nat}
theorem WlS.on (h : WlS w0 w B S N Y ga gc n st ma mc la lc) (k : Ext w w') : WlS w0 w' B S N Y ga gc n st ma mc la lc :=
  ⟨h.ext.trans k, h.bs, h.nd, h.rB.on k, h.rS.on k, h.rN.on k, h.rY.on k, h.len, k_own_heap h.oM (fun i hi => k.block i (h.oM.lt i hi).2), k_own_heap h.oL (fun i hi => k.block i (h.oL.lt i hi).2), h.aM, h.aL, h.aX⟩
theorem WlS.setN (h : WlS w0 w B S N Y ga gc n st ma mc la lc) (p x : Nat) : WlS w0 (w.setCell ⟨N, p, none⟩ (.int .i64 (x : Int))) B S N Y ga gc n ⟨st.shut, st.next.set p x, st.wby, st.met, st.left⟩ ma mc la lc := by
  obtain ⟨n1, n2, n3, n4, n5, n6⟩ := h.nd
  refine ⟨h.ext.set h.bs.2.2.1 _, h.bs, h.nd, h.rB.other n2 _ _, h.rS.other n4 _ _, ?_, h.rY.other (Ne.symm n6) _ _, ⟨h.len.1, by rw [List.length_set]; exact h.len.2.1, h.len.2.2⟩, k_own_heap h.oM (fun i hi => Below.heap_setCell _ _ _ _ ?_), k_own_heap h.oL (fun i hi => Below.heap_setCell _ _ _ _ ?_), h.aM, h.aL, h.aX⟩
  · rw [← ns_set]; exact h.rN.set p _
  · rw [obk_eq] at hi; exact (h.aM i hi).2.2.1
  · rw [obk_eq] at hi; exact (h.aL i hi).2.2.1
theorem WlS.setY (h : WlS w0 w B S N Y ga gc n st ma mc la lc) (p : Nat) (x : Option Nat) : WlS w0 (w.setCell ⟨Y, p, none⟩ (.int .i64 (oI x))) B S N Y ga gc n ⟨st.shut, st.next, st.wby.set p x, st.met, st.left⟩ ma mc la lc := by
  obtain ⟨n1, n2, n3, n4, n5, n6⟩ := h.nd
  refine ⟨h.ext.set h.bs.2.2.2 _, h.bs, h.nd, h.rB.other n3 _ _, h.rS.other n5 _ _, h.rN.other n6 _ _, ?_, ⟨h.len.1, h.len.2.1, by rw [List.length_set]; exact h.len.2.2⟩, k_own_heap h.oM (fun i hi => Below.heap_setCell _ _ _ _ ?_), k_own_heap h.oL (fun i hi => Below.heap_setCell _ _ _ _ ?_), h.aM, h.aL, h.aX⟩
  · rw [← os_set]; exact h.rY.set p _
  · rw [obk_eq] at hi; exact (h.aM i hi).2.2.2
  · rw [obk_eq] at hi; exact (h.aL i hi).2.2.2
theorem WlS.setS (h : WlS w0 w B S N Y ga gc n st ma mc la lc) (p : Nat) (x : Bool) : WlS w0 (w.setCell ⟨S, p, none⟩ (.bool x)) B S N Y ga gc n ⟨st.shut.set p x, st.next, st.wby, st.met, st.left⟩ ma mc la lc := by
  obtain ⟨n1, n2, n3, n4, n5, n6⟩ := h.nd
  refine ⟨h.ext.set h.bs.2.1 _, h.bs, h.nd, h.rB.other n1 _ _, ?_, h.rN.other (Ne.symm n4) _ _, h.rY.other (Ne.symm n5) _ _, ⟨by rw [List.length_set]; exact h.len.1, h.len.2.1, h.len.2.2⟩, k_own_heap h.oM (fun i hi => Below.heap_setCell _ _ _ _ ?_), k_own_heap h.oL (fun i hi => Below.heap_setCell _ _ _ _ ?_), h.aM, h.aL, h.aX⟩
  · rw [← bs_set]; exact h.rS.set p _
  · rw [obk_eq] at hi; exact (h.aM i hi).2.1
  · rw [obk_eq] at hi; exact (h.aL i hi).2.1
theorem WlS.pushM {w3 : World} {ob : Obj} {g' cap' : Nat} (h : WlS w0 w B S N Y ga gc n st ma mc la lc) (x : Nat)
    (g1 : (w.alloc ob).grownBy w3 (Value.slice ma st.met.length mc).ownBlock)
    (ho : w3.ownsRow w0.heap.size 3 1 (.slice (some ⟨g', 0, none⟩) (st.met.length + 1) cap') (st.met.length + 1) (ns st.met ++ [.int .i64 (x : Int)]))
    (hw : (Value.slice ma st.met.length mc).ownBlock = some g' ∨ (w.alloc ob).heap.size ≤ g') :
    WlS w0 (w3.setCell ⟨B, 4, none⟩ (.slice (some ⟨g', 0, none⟩) (st.met.length + 1) cap')) B S N Y ga gc n ⟨st.shut, st.next, st.wby, st.met ++ [x], st.left⟩ (some ⟨g', 0, none⟩) cap' la lc := by
  obtain ⟨n1, n2, n3, n4, n5, n6⟩ := h.nd
  have hB := k_lt h.rB
  have hS := k_lt h.rS
  have hN := k_lt h.rN
  have hY := k_lt h.rY
  rw [obk_eq] at g1 hw
  have hz : (w.alloc ob).heap.size = w.heap.size + 1 := Array.size_push ..
  have ng : ∀ k, k < w.heap.size → obk ma ≠ some k → k ≠ g' := fun k hk hne e => by
    subst e
    rcases hw with e | e
    · exact hne e
    · omega
  have nB : obk ma ≠ some B := fun e => (h.aM B e).1 rfl
  have nS : obk ma ≠ some S := fun e => (h.aM S e).2.1 rfl
  have nN : obk ma ≠ some N := fun e => (h.aM N e).2.2.1 rfl
  have nY : obk ma ≠ some Y := fun e => (h.aM Y e).2.2.2 rfl
  have hk := h.on (Ext.alloc w ob)
  have e3 : Ext w0 w3 := by
    refine Below.grown hk.ext g1 hk.ext.size ?_
    intro j hj
    have := hk.oM.lt j (by rw [obk_eq]; exact hj)
    exact this.1
  have e4 : Ext w0 (w3.setCell ⟨B, 4, none⟩ (.slice (some ⟨g', 0, none⟩) (st.met.length + 1) cap')) := e3.set h.bs.1 _
  refine ⟨e4, h.bs, h.nd, ?_, (hk.rS.grown g1 (Ne.symm nS)).other (Ne.symm n1) _ _, (hk.rN.grown g1 (Ne.symm nN)).other (Ne.symm n2) _ _, (hk.rY.grown g1 (Ne.symm nY)).other (Ne.symm n3) _ _, h.len, ?_, ?_, ?_, h.aL, ?_⟩
  · have := (hk.rB.grown g1 (Ne.symm nB)).set 4 (.slice (some ⟨g', 0, none⟩) (st.met.length + 1) cap')
    simpa using this
  · have := k_own_heap (W := w3.setCell ⟨B, 4, none⟩ (.slice (some ⟨g', 0, none⟩) (st.met.length + 1) cap')) ho (fun i hi => Below.heap_setCell _ _ _ _ (by simp only [Value.ownBlock, Option.some.injEq] at hi; subst hi; exact Ne.symm (ng B hB nB)))
    simpa [ns] using this
  · refine k_own_heap hk.oL (fun i hi => (Below.heap_setCell _ _ _ _ ?_).trans (g1.block i (hk.oL.lt i hi).2 ?_))
    · rw [obk_eq] at hi; exact (h.aL i hi).1
    · intro e; rw [obk_eq] at hi; exact h.aX i e.symm hi
  · intro k e
    simp only [obk, Value.ownBlock, Option.some.injEq] at e
    subst e
    exact ⟨Ne.symm (ng B hB nB), Ne.symm (ng S hS nS), Ne.symm (ng N hN nN), Ne.symm (ng Y hY nY)⟩
  · intro k e e2
    simp only [obk, Value.ownBlock, Option.some.injEq] at e
    subst e
    rcases hw with e | e
    · exact h.aX g' e e2
    · have := h.oL.lt g' (by rw [obk_eq]; exact e2)
      omega
theorem WlS.pushL {w3 : World} {ob : Obj} {g' cap' : Nat} (h : WlS w0 w B S N Y ga gc n st ma mc la lc) (x : Nat)
    (g1 : (w.alloc ob).grownBy w3 (Value.slice la st.left.length lc).ownBlock)
    (ho : w3.ownsRow w0.heap.size 3 1 (.slice (some ⟨g', 0, none⟩) (st.left.length + 1) cap') (st.left.length + 1) (ns st.left ++ [.int .i64 (x : Int)]))
    (hw : (Value.slice la st.left.length lc).ownBlock = some g' ∨ (w.alloc ob).heap.size ≤ g') :
    WlS w0 (w3.setCell ⟨B, 5, none⟩ (.slice (some ⟨g', 0, none⟩) (st.left.length + 1) cap')) B S N Y ga gc n ⟨st.shut, st.next, st.wby, st.met, st.left ++ [x]⟩ ma mc (some ⟨g', 0, none⟩) cap' := by
  obtain ⟨n1, n2, n3, n4, n5, n6⟩ := h.nd
  have hB := k_lt h.rB
  have hS := k_lt h.rS
  have hN := k_lt h.rN
  have hY := k_lt h.rY
  rw [obk_eq] at g1 hw
  have hz : (w.alloc ob).heap.size = w.heap.size + 1 := Array.size_push ..
  have ng : ∀ k, k < w.heap.size → obk la ≠ some k → k ≠ g' := fun k hk hne e => by
    subst e
    rcases hw with e | e
    · exact hne e
    · omega
  have nB : obk la ≠ some B := fun e => (h.aL B e).1 rfl
  have nS : obk la ≠ some S := fun e => (h.aL S e).2.1 rfl
  have nN : obk la ≠ some N := fun e => (h.aL N e).2.2.1 rfl
  have nY : obk la ≠ some Y := fun e => (h.aL Y e).2.2.2 rfl
  have hk := h.on (Ext.alloc w ob)
  have e3 : Ext w0 w3 := by
    refine Below.grown hk.ext g1 hk.ext.size ?_
    intro j hj
    have := hk.oL.lt j (by rw [obk_eq]; exact hj)
    exact this.1
  have e4 : Ext w0 (w3.setCell ⟨B, 5, none⟩ (.slice (some ⟨g', 0, none⟩) (st.left.length + 1) cap')) := e3.set h.bs.1 _
  refine ⟨e4, h.bs, h.nd, ?_, (hk.rS.grown g1 (Ne.symm nS)).other (Ne.symm n1) _ _, (hk.rN.grown g1 (Ne.symm nN)).other (Ne.symm n2) _ _, (hk.rY.grown g1 (Ne.symm nY)).other (Ne.symm n3) _ _, h.len, ?_, ?_, h.aM, ?_, ?_⟩
  · have := (hk.rB.grown g1 (Ne.symm nB)).set 5 (.slice (some ⟨g', 0, none⟩) (st.left.length + 1) cap')
    simpa using this
  · refine k_own_heap hk.oM (fun i hi => (Below.heap_setCell _ _ _ _ ?_).trans (g1.block i (hk.oM.lt i hi).2 ?_))
    · rw [obk_eq] at hi; exact (h.aM i hi).1
    · intro e; rw [obk_eq] at hi; exact h.aX i hi e.symm
  · have := k_own_heap (W := w3.setCell ⟨B, 5, none⟩ (.slice (some ⟨g', 0, none⟩) (st.left.length + 1) cap')) ho (fun i hi => Below.heap_setCell _ _ _ _ (by simp only [Value.ownBlock, Option.some.injEq] at hi; subst hi; exact Ne.symm (ng B hB nB)))
    simpa [ns] using this
  · intro k e
    simp only [obk, Value.ownBlock, Option.some.injEq] at e
    subst e
    exact ⟨Ne.symm (ng B hB nB), Ne.symm (ng S hS nS), Ne.symm (ng N hN nN), Ne.symm (ng Y hY nY)⟩
  · intro k e e2
    simp only [obk, Value.ownBlock, Option.some.injEq] at e2
    subst e2
    rcases hw with e3 | e3
    · exact h.aX g' e e3
    · have := h.oM.lt g' (by rw [obk_eq]; exact e)
      omega
end

set_option maxHeartbeats 1000000 in
theorem isPoint_w (ga : Option Addr) (n gc : Nat) (x : Int) (w : World) (hn : n ≤ 1000000) :
    Calls Try.prog 48 #[.slice ga n gc, .int .i64 x] w fun e w' => e = .returned (.bool (gPt n x)) ∧ w' = w := by
  unfold gPt
  by_cases h0 : 0 ≤ x
  · have e0 : decide (0 ≤ x) = true := by simpa using h0
    rw [e0, Bool.true_and]
    go_enter Try.func48, Try.ntmps48
    go_wp2_with fail
    go_ret
    exact ⟨rfl, rfl⟩
  · have e0 : decide (0 ≤ x) = false := by simpa using h0
    rw [e0, Bool.false_and]
    go_enter Try.func48, Try.ntmps48
    go_wp2_with fail
    go_ret
    exact ⟨rfl, rfl⟩

theorem gScan_hit {n : Nat} {sh : List Bool} {x : Int} {r : List Int} (h1 : gPt n x = true) (h2 : sh[x.toNat]? = some false) : gScan n sh (x :: r) = (1, some x.toNat) := by
  rw [gScan, if_pos]; simp [h1, h2]
theorem gScan_no {n : Nat} {sh : List Bool} {x : Int} {r : List Int} (h : gPt n x = false ∨ sh[x.toNat]? = some true) : gScan n sh (x :: r) = ((gScan n sh r).1 + 1, (gScan n sh r).2) := by
  rw [gScan, if_neg]
  rcases h with h | h <;> simp [h]
theorem gScan_le (n : Nat) (sh : List Bool) : ∀ (l : List Int), (gScan n sh l).1 ≤ l.length
  | [] => by simp [gScan]
  | x :: r => by
    have := gScan_le n sh r
    rw [gScan]
    split
    · simp
    · simp; omega

/-- The list that is looked at, from its place on. -/
structure OnI (w0 wr : World) (B S N Y : Nat) (ga : Option Addr) (gc n : Nat) (st : GW) (ma : Option Addr) (mc : Nat) (la : Option Addr) (lc : Nat) (l : List Int) (p x y : Nat) : Prop where
  S : WlS w0 wr B S N Y ga gc n ⟨st.shut, st.next.set p y, st.wby, st.met, st.left⟩ ma mc la lc
  le : x ≤ y ∧ y ≤ l.length
  eq : gScan n st.shut (l.drop x) = ((gScan n st.shut (l.drop y)).1 + (y - x), (gScan n st.shut (l.drop y)).2)

set_option maxHeartbeats 2000000 in
theorem onward_w (w0 w : World) (B S N Y : Nat) (ga : Option Addr) (gc : Nat) (g : List (List Int)) (st : GW) (ma : Option Addr) (mc : Nat) (la : Option Addr) (lc : Nat) (l : List Int) (p x : Nat) (hg : RepG w0 (In w0) ga g) (hf : Few g)
    (hS : WlS w0 w B S N Y ga gc g.length st ma mc la lc) (hl : g[p]? = some l) (hx : st.next[p]? = some x) (hxl : x ≤ l.length) :
    Calls Try.prog 65 #[.pointer (some ⟨B, 0, none⟩), .int .i64 (p : Int)] w fun e w' => e = .returned (.int .i64 (oI (gScan g.length st.shut (l.drop x)).2)) ∧
      WlS w0 w' B S N Y ga gc g.length ⟨st.shut, st.next.set p (x + (gScan g.length st.shut (l.drop x)).1), st.wby, st.met, st.left⟩ ma mc la lc := by
  obtain ⟨gb, go, la', lc', rfl, _, hgc, hrl⟩ := hg.at hl
  have hpn : p < g.length := (List.getElem?_eq_some_iff.1 hl).1
  have hll : l.length ≤ 1000000 := hf.2 l (List.mem_of_getElem? hl)
  have hgn : g.length ≤ 1000000 := hf.1
  have HIP := hide (fun (W : World) (z : Int) => isPoint_w (some ⟨gb, go, none⟩) g.length gc z W hgn)
  have hs0 : st.next.set p x = st.next := by
    apply List.ext_getElem?
    intro i
    rw [List.getElem?_set]
    split
    · rename_i h; subst h; split
      · rw [hx]
      · rename_i h2; rw [List.getElem?_eq_none (by omega)]
    · rfl
  have HI0 : Hd (OnI w0 w B S N Y (some ⟨gb, go, none⟩) gc g.length st ma mc la lc l p x x) := ⟨by rw [hs0]; exact hS, ⟨Nat.le_refl _, hxl⟩, by simp⟩
  have c0 : w.cell? ⟨B, 0, none⟩ = some (.slice (some ⟨gb, go, none⟩) g.length gc) := hS.rB.cell 0 rfl
  have hgw := hS.ext.cell hgc
  have HRl := hide hrl
  have hshl := hide hS.len.1
  have hnl := hide hS.len.2.1
  clear hrl hS hl hx hg hf hs0
  generalize g.length = n at *
  go_enter Try.func65, Try.ntmps65
  go_wp2_with fail
  go_loopg [6] (l.length - x) (fun gk t wr => ∃ y : Nat, y + gk = l.length ∧ Hd (OnI w0 wr B S N Y (some ⟨gb, go, none⟩) gc n st ma mc la lc l p x y))
  case atStart => exact ⟨x, by omega, HI0⟩
  case round =>
    clear HI0 c0 hgw
    obtain ⟨y, hy, hI⟩ := hrel
    have c0 : wr.cell? ⟨B, 0, none⟩ = some (.slice (some ⟨gb, go, none⟩) n gc) := (unhide hI).S.rB.cell 0 rfl
    have c1 : wr.cell? ⟨B, 1, none⟩ = some (.slice (some ⟨S, 0, none⟩) n n) := (unhide hI).S.rB.cell 1 rfl
    have c2 : wr.cell? ⟨B, 2, none⟩ = some (.slice (some ⟨N, 0, none⟩) n n) := (unhide hI).S.rB.cell 2 rfl
    have cy : wr.cell? ⟨N, p, none⟩ = some (.int .i64 (y : Int)) := (unhide hI).S.rN.cell p (ns_at (by rw [List.getElem?_set]; rw [if_pos rfl, if_pos (by rw [unhide hnl]; exact hpn)]))
    have fy := k_rowF (unhide hI).S.rN p
    cases gk with
    | zero =>
      obtain rfl : y = l.length := by omega
      have HQ : Hd (gScan n st.shut (l.drop x) = (l.length - x, none)) := by
        have := (unhide hI).eq
        rw [List.drop_length, gScan] at this
        simpa [Hd] using this
      go_wp2_with fail
      go_ret
      rw [unhide HQ]
      refine ⟨rfl, ?_⟩
      have hS := (unhide hI).S
      rw [show x + (l.length - x) = l.length by omega]
      exact hS
    | succ gk =>
      have hlt : y < l.length := by omega
      obtain ⟨z, hz⟩ : ∃ z, l[y]? = some z := ⟨_, List.getElem?_eq_getElem hlt⟩
      obtain ⟨zb, zo, rfl, hzb, hzc⟩ := (unhide HRl).at hz
      have hzc := (unhide hI).S.ext.cell hzc
      have hdr : Hd (l.drop y = z :: l.drop (y + 1)) := by
        rw [List.getElem?_eq_getElem hlt] at hz
        injection hz with hz
        unfold Hd
        rw [List.drop_eq_getElem_cons hlt, hz]
      have HS' := hide ((unhide hI).S.setN p (y + 1))
      have hsh := (unhide hI).S.rS
      have hnS := (unhide hI).S.nd.2.2.2.1
      simp only [List.set_set] at HS'
      have e1 : ((y + 1 : Nat) : Int) = (y : Int) + 1 := by omega
      rw [e1] at HS'
      have c0' : (wr.setCell ⟨N, p, none⟩ (.int .i64 ((y : Int) + 1))).cell? ⟨B, 0, none⟩ = some (.slice (some ⟨gb, go, none⟩) n gc) := (unhide HS').rB.cell 0 rfl
      have c1' : (wr.setCell ⟨N, p, none⟩ (.int .i64 ((y : Int) + 1))).cell? ⟨B, 1, none⟩ = some (.slice (some ⟨S, 0, none⟩) n n) := (unhide HS').rB.cell 1 rfl
      clear hz hsh hnS
      cases hpt : gPt n z with
      | false =>
        have HI' : Hd (OnI w0 (wr.setCell ⟨N, p, none⟩ (.int .i64 ((y : Int) + 1))) B S N Y (some ⟨gb, go, none⟩) gc n st ma mc la lc l p x (y + 1)) := by
          refine ⟨unhide HS', ⟨by have := (unhide hI).le; omega, by omega⟩, ?_⟩
          have h0 := (unhide hI).eq
          rw [unhide hdr, gScan_no (Or.inl hpt)] at h0
          rw [h0]
          have := (unhide hI).le
          rw [show (gScan n st.shut (l.drop (y + 1))).1 + 1 + (y - x) = (gScan n st.shut (l.drop (y + 1))).1 + (y + 1 - x) by omega]
        have HIP2 := hide (fun W => unhide HIP W z)
        rw [hpt] at HIP2
        clear HIP
        go_wp2_with (go_at_call 48; refine Calls.mono (unhide HIP2 _) ?_; rintro e w1 ⟨rfl, hw⟩; rw [hw]; clear hw w1)
        go_roundg gk
        case rel => exact ⟨y + 1, by omega, HI'⟩
        case measure => omega
      | true =>
        obtain ⟨q, rfl⟩ : ∃ q : Nat, z = (q : Int) := by
          unfold gPt at hpt
          simp at hpt
          exact ⟨z.toNat, by omega⟩
        have hqn : q < n := by
          unfold gPt at hpt
          simp at hpt
          omega
        obtain ⟨b, hb⟩ : ∃ b, st.shut[q]? = some b := ⟨_, List.getElem?_eq_getElem (by rw [unhide hshl]; exact hqn)⟩
        have cb : (wr.setCell ⟨N, p, none⟩ (.int .i64 ((y : Int) + 1))).cell? ⟨S, q, none⟩ = some (.bool b) := (unhide HS').rS.cell q (bs_at hb)
        have HIP2 := hide (fun W => unhide HIP W (q : Int))
        rw [hpt] at HIP2
        clear HIP
        cases b with
        | true =>
          have HI' : Hd (OnI w0 (wr.setCell ⟨N, p, none⟩ (.int .i64 ((y : Int) + 1))) B S N Y (some ⟨gb, go, none⟩) gc n st ma mc la lc l p x (y + 1)) := by
            refine ⟨unhide HS', ⟨by have := (unhide hI).le; omega, by omega⟩, ?_⟩
            have h0 := (unhide hI).eq
            rw [unhide hdr, gScan_no (Or.inr (by simpa using hb))] at h0
            rw [h0]
            have := (unhide hI).le
            rw [show (gScan n st.shut (l.drop (y + 1))).1 + 1 + (y - x) = (gScan n st.shut (l.drop (y + 1))).1 + (y + 1 - x) by omega]
          clear hb hpt
          go_wp2_with (go_at_call 48; refine Calls.mono (unhide HIP2 _) ?_; rintro e w1 ⟨rfl, hw⟩; rw [hw]; clear hw w1)
          go_roundg gk
          case rel => exact ⟨y + 1, by omega, HI'⟩
          case measure => omega
        | false =>
          have HQ : Hd (gScan n st.shut (l.drop x) = (y + 1 - x, some q)) := by
            have h0 := (unhide hI).eq
            rw [unhide hdr, gScan_hit hpt (by simpa using hb)] at h0
            unfold Hd
            rw [h0]
            have := (unhide hI).le
            rw [show (1, some ((q : Int)).toNat).1 + (y - x) = y + 1 - x by show 1 + (y - x) = _; omega]
            simp
          have hle := (unhide hI).le
          clear hb hpt
          go_wp2_with (go_at_call 48; refine Calls.mono (unhide HIP2 _) ?_; rintro e w1 ⟨rfl, hw⟩; rw [hw]; clear hw w1)
          go_ret
          rw [unhide HQ]
          refine ⟨rfl, ?_⟩
          have hS := unhide HS'
          rw [show x + (y + 1 - x) = y + 1 by omega]
          exact hS

end Go.Proofs.Ytdnhekgbfhlhoaa
