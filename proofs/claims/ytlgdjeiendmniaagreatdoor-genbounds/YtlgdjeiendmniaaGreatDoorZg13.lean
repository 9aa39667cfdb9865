/- What operators of a level join, from left to right: one text for each level. · Indexes behind an expression, from left to right: what holds of the loop. -/
import Derived.Test.YtlgdjeiendmniaaGreatDoorZg12
set_option linter.unusedSimpArgs false
set_option linter.unusedVariables false
set_option maxRecDepth 10000

namespace Go.Proofs.YtlgdjeiendmniaaGreatDoor
open Go.RowKit

theorem step_call_two {P : Program} {w : World} {ops : Array Oper} {o : Oper} {a : Act} {K : Act → World → Prop} {Q : Exit → Act → World → Prop} {E : Prop}
    (hg : o.guard = none) (f : FuncId) (x y : Operand) (t u : TypeId) (hop : o.op = Op.call { callee := Callee.value (.func f), args := #[x, y], argTypes := #[t, u] })
    (v v' : Value) (hx : a.eval x = v) (hy : a.eval y = v') (hf : (callFunc f #[v, v']).run P w = .ok (.enter f #[v, v']) w) (hK : Calls P f #[v, v'] w fun e w' => ∃ r, e = .returned r ∧ K (a.put o.dst r) w') :
    if Region.wanted o (yielded ops a.tmps) = true then Oper.wp P o a w K Q else E := by
  have hw : Region.wanted o (yielded ops a.tmps) = true := by simp [Region.wanted, hg]
  rw [if_pos hw]
  have he : a.eval (.func f) = .func (.func f) #[] #[] := rfl
  unfold Oper.wp
  have hrun : (execOp a.eval o).run P w = .ok (.enter f #[v, v']) w := by
    simp [execOp, hop, resolve, invoke, hx, hy, he, Result.andThen, Deferred.ofValue, hf]
  rw [hrun, Oper.upon_enter]
  refine hK.mono ?_
  rintro e w' ⟨r, rfl, h⟩
  exact h

theorem enterNode (v u : Value) (w : World) : (callFunc 161 #[v, u]).run Tryz.prog w = .ok (.enter 161 #[v, u]) w := by kernel_rfl
theorem enterSigned (v : Value) (w : World) : (callFunc 189 #[v]).run Tryz.prog w = .ok (.enter 189 #[v]) w := by kernel_rfl
theorem enterProduct (v : Value) (w : World) : (callFunc 186 #[v]).run Tryz.prog w = .ok (.enter 186 #[v]) w := by kernel_rfl
theorem enterSum (v : Value) (w : World) : (callFunc 181 #[v]).run Tryz.prog w = .ok (.enter 181 #[v]) w := by kernel_rfl
theorem enterComparison (v : Value) (w : World) : (callFunc 171 #[v]).run Tryz.prog w = .ok (.enter 171 #[v]) w := by kernel_rfl
theorem enterBoth (v : Value) (w : World) : (callFunc 159 #[v]).run Tryz.prog w = .ok (.enter 159 #[v]) w := by kernel_rfl
theorem enterInBr (v u : Value) (w : World) : (callFunc 201 #[v, u]).run Tryz.prog w = .ok (.enter 201 #[v, u]) w := by kernel_rfl

theorem Gr.drew_of {g : Nat} {w w' : World} (h : Gr g w.drew w') : Gr g w w' := ⟨h.os, h.tape, h.output, h.size, h.block⟩

/-- Two trees in a block of their own. -/
theorem pair_rep {W : World} {F : Nat → Prop} {B : Nat} {t : TypeId} {k o n k2 o2 n2 : Int} {s s2 : ByteArray} {l l2 : List PN} {a a2 : Option Addr} {cap cap2 : Nat} (hB : W.heap[B]? = some (.cells #[.int .i64 k, .int .i64 o, .string s, .int .i64 n, .slice a l.length cap, .int .i64 k2, .int .i64 o2, .string s2, .int .i64 n2, .slice a2 l2.length cap2] t (0, 0)))
    (hF : F B) (h1 : l.length ≤ cap) (h2 : l2.length ≤ cap2) (r1 : RepNL W F l a) (r2 : RepNL W F l2 a2) : RepNL W F [⟨k, o, s, n, l⟩, ⟨k2, o2, s2, n2, l2⟩] (some ⟨B, 0, none⟩) := by
  rw [RepNL]
  refine ⟨B, 0, _, _, _, _, _, rfl, hF, by rw [RepN]; exact ⟨a, cap, rfl, h1, r1⟩, rowC hB 0 rfl, rowC hB 1 rfl, rowC hB 2 rfl, rowC hB 3 rfl, rowC hB 4 rfl, ?_⟩
  rw [RepNL]
  exact ⟨B, 5, _, _, _, _, _, rfl, hF, by rw [RepN]; exact ⟨a2, cap2, rfl, h2, r2⟩, rowC hB 5 rfl, rowC hB 6 rfl, rowC hB 7 rfl, rowC hB 8 rfl, rowC hB 9 rfl, by simp [RepNL]⟩

/-- What holds at the head of a level's loop. -/
structure LvI (lv : Int) (sb : Rdr) (g len : Nat) (w wr : World) (R : PN × PS) (b3 b4 : Nat) (bb : Bool) (k o : Int) (s : ByteArray) (n : Int) (l : List PN) (a : Option Addr) (cap : Nat) (z : Opr) (stc : PS) (j : Nat) : Prop where
  eq : R = if bb then loopP lv sb j (z.node [⟨k, o, s, n, l⟩, (sb stc).1]) (sb stc).2 else (⟨k, o, s, n, l⟩, stc)
  fuel : bb = true → stc.ts.length < j
  r2 : wr.heap[w.heap.size]? = some (nodO 0 0 emptyB 0 (.slice none 0 0))
  r3 : wr.heap[b3]? = some (nodO k o s n (.slice a l.length cap))
  r4 : wr.heap[b4]? = some (oprO z)
  hc : l.length ≤ cap
  rep : RepNL wr (fun b => w.heap.size < b ∧ b < wr.heap.size ∧ b ≠ b3 ∧ b ≠ b4) l a
  h3 : w.heap.size < b3
  h34 : b3 < b4
  rs : Rs wr g len stc
  gr : Gr g w wr

theorem oper_ne {st : PS} {lv : Int} {z : Opr} (h : st.oper lv = some z) : st.next.ts.length < st.ts.length := by
  cases e : st.ts with
  | nil =>
    unfold PS.oper at h
    rw [e] at h
    simp [hdT, tkZ] at h
  | cons t r => simp [PS.next, e]

theorem takeO_le (st : PS) (lv : Int) : (st.takeO lv).2.ts.length ≤ st.ts.length := by
  unfold PS.takeO
  split
  · rename_i h; exact Nat.le_of_lt (oper_ne h)
  · exact Nat.le_refl _
theorem takeO_lt {st : PS} {lv : Int} (h : (st.takeO lv).1.isSome = true) : (st.takeO lv).2.ts.length < st.ts.length := by
  unfold PS.takeO at h ⊢
  split
  · rename_i z h2; exact oper_ne h2
  · rename_i h2; rw [h2] at h; cases h
theorem loop_eq (lv : Int) (sb : Rdr) (j : Nat) (p : PN) (st : PS) : loopP lv sb (j + 1) p st = if (st.takeO lv).1.isSome then loopP lv sb j (((st.takeO lv).1.getD oprZ).node [p, (sb (st.takeO lv).2).1]) (sb (st.takeO lv).2).2 else (p, (st.takeO lv).2) := by
  rw [loopP]
  cases h : st.takeO lv with
  | mk x s => cases x <;> rfl

/-- What holds of a level's loop when a node was made and no operator is looked for yet. -/
structure LvM (lv : Int) (sb : Rdr) (g len : Nat) (w W : World) (R : PN × PS) (b3 : Nat) (k o : Int) (s : ByteArray) (n : Int) (l : List PN) (a : Option Addr) (cap : Nat) (st2 : PS) (j : Nat) : Prop where
  eq : R = loopP lv sb j ⟨k, o, s, n, l⟩ st2
  fuel : st2.ts.length < j
  r2 : W.heap[w.heap.size]? = some (nodO 0 0 emptyB 0 (.slice none 0 0))
  r3 : W.heap[b3]? = some (nodO k o s n (.slice a l.length cap))
  hc : l.length ≤ cap
  rep : RepNL W (fun b => w.heap.size < b ∧ b < W.heap.size ∧ b ≠ b3) l a
  h3 : w.heap.size < b3
  rs : Rs W g len st2
  gr : Gr g w W

theorem LvM.of {lv : Int} {sb : Rdr} {g len : Nat} {w wr w3 w4 : World} {R : PN × PS} {b3 b4 : Nat} {k o : Int} {s : ByteArray} {n : Int} {l : List PN} {a : Option Addr} {cap : Nat} {z : Opr} {st0 stc st2 : PS} {j : Nat} {k2 o2 : Int} {s2 : ByteArray} {n2 : Int} {l2 : List PN} {a2 : Option Addr} {cap2 : Nat} {t : TypeId}
    (hR : Rs w g len st0) (h : LvI lv sb g len w wr R b3 b4 true k o s n l a cap z stc j) (hq : R = loopP lv sb j (z.node [⟨k, o, s, n, l⟩, ⟨k2, o2, s2, n2, l2⟩]) st2) (hl : st2.ts.length ≤ stc.ts.length) (X3 : Gr g wr w3) (S3 : St w3 g len st2) (hc2 : l2.length ≤ cap2) (L3 : RepNL w3 (Fr wr.heap.size w3.heap.size) l2 a2) (X4 : Ext w3 w4)
    (RI : w4.heap[w3.heap.size]? = some (.cells #[.int .i64 k, .int .i64 o, .string s, .int .i64 n, .slice a l.length cap, .int .i64 k2, .int .i64 o2, .string s2, .int .i64 n2, .slice a2 l2.length cap2] t (0, 0))) :
    LvM lv sb g len w (set5 w4 b3 z.k z.o emptyB 0 (.slice (some ⟨w3.heap.size, 0, none⟩) 2 2)) R b3 z.k z.o emptyB 0 [⟨k, o, s, n, l⟩, ⟨k2, o2, s2, n2, l2⟩] (some ⟨w3.heap.size, 0, none⟩) 2 st2 j := by
  have hg : g < w.heap.size := hR.st.lt
  have h3 := h.h3
  have h34 := h.h34
  have hb4 : b4 < wr.heap.size := (Array.getElem?_eq_some_iff.1 h.r4).1
  have hlt : w3.heap.size < w4.heap.size := (Array.getElem?_eq_some_iff.1 RI).1
  have X34 : Gr g wr w4 := X3.trans (Gr.of X4)
  have hsz := X3.size
  have G5 : Gr g w (set5 w4 b3 z.k z.o emptyB 0 (.slice (some ⟨w3.heap.size, 0, none⟩) 2 2)) := (h.gr.trans X34).set5 (by omega) _ _ _ _ _
  have S5 := (S3.ext X4).set5 (b := b3) (by omega) z.k z.o emptyB 0 (.slice (some ⟨w3.heap.size, 0, none⟩) 2 2)
  have Z5 := set5_size w4 b3 z.k z.o emptyB 0 (.slice (some ⟨w3.heap.size, 0, none⟩) 2 2)
  have B5 : ∀ x, x ≠ b3 → (set5 w4 b3 z.k z.o emptyB 0 (.slice (some ⟨w3.heap.size, 0, none⟩) 2 2)).heap[x]? = w4.heap[x]? := fun x hx => set5_block hx _ _ _ _ _
  have R5 := set5_row (X34.row h.r3 (by omega)) z.k z.o emptyB 0 (.slice (some ⟨w3.heap.size, 0, none⟩) 2 2)
  generalize set5 w4 b3 z.k z.o emptyB 0 (.slice (some ⟨w3.heap.size, 0, none⟩) 2 2) = W at *
  have hr2 : W.heap[w.heap.size]? = some (nodO 0 0 emptyB 0 (.slice none 0 0)) := (B5 _ (by omega)).trans (X34.row h.r2 (by omega))
  have hp1 : RepNL W (fun b => w.heap.size < b ∧ b < W.heap.size ∧ b ≠ b3) l a := RepNL.to (fun b hb => ⟨⟨hb.1, by omega, hb.2.2.1⟩, (B5 b hb.2.2.1).trans (X34.block b hb.2.1 (by omega))⟩) _ _ h.rep
  have hp2 : RepNL W (fun b => w.heap.size < b ∧ b < W.heap.size ∧ b ≠ b3) l2 a2 := RepNL.to (fun b hb => by
    have h1 := hb.1
    have h2 := hb.2
    exact ⟨⟨by omega, by omega, by omega⟩, (B5 b (by omega)).trans (X4.block b hb.2)⟩) _ _ L3
  have hpr := pair_rep (F := fun b => w.heap.size < b ∧ b < W.heap.size ∧ b ≠ b3) ((B5 _ (by omega)).trans RI) ⟨by omega, by omega, by omega⟩ h.hc hc2 hp1 hp2
  have hfu := h.fuel rfl
  exact ⟨hq, by omega, hr2, R5, Nat.le_refl _, hpr, h3, hR.go G5 S5, G5⟩

theorem LvM.head {lv : Int} {sb : Rdr} {g len : Nat} {w W w6 : World} {R : PN × PS} {b3 : Nat} {k o : Int} {s : ByteArray} {n : Int} {l : List PN} {a : Option Addr} {cap : Nat} {z : Opr} {st0 st2 : PS} {j : Nat}
    (hR : Rs w g len st0) (h : LvM lv sb g len w W R b3 k o s n l a cap st2 (j + 1)) (X6 : Gr g (W.alloc (oprO z)) w6) (S6 : St w6 g len (st2.takeO lv).2) :
    LvI lv sb g len w (setO w6 W.heap.size ((st2.takeO lv).1.getD oprZ)) R b3 W.heap.size (st2.takeO lv).1.isSome k o s n l a cap ((st2.takeO lv).1.getD oprZ) (st2.takeO lv).2 j := by
  have hg : g < w.heap.size := hR.st.lt
  have h3 := h.h3
  have hb3 : b3 < W.heap.size := (Array.getElem?_eq_some_iff.1 h.r3).1
  have hf := h.fuel
  have hs6 := X6.size
  rw [size_alloc] at hs6
  have hgs := h.gr.size
  have GW : Gr g W w6 := (Gr.of (Ext.alloc _ _)).trans X6
  have G5 := (h.gr.trans GW).setO (b := W.heap.size) hgs ((st2.takeO lv).1.getD oprZ)
  have S5 := S6.setO (b := W.heap.size) (by omega) ((st2.takeO lv).1.getD oprZ)
  have B5 : ∀ x, x ≠ W.heap.size → (setO w6 W.heap.size ((st2.takeO lv).1.getD oprZ)).heap[x]? = w6.heap[x]? := fun x hx => by
    rw [Below.heap_setCell _ _ _ _ hx, Below.heap_setCell _ _ _ _ hx, Below.heap_setCell _ _ _ _ hx, Below.heap_setCell _ _ _ _ hx]
  have Z5 : (setO w6 W.heap.size ((st2.takeO lv).1.getD oprZ)).heap.size = w6.heap.size := by simp [World.setCell]
  have R5 := setO_row (X6.row (Go.heap_alloc_new W _) (by omega)) ((st2.takeO lv).1.getD oprZ)
  have heq := h.eq.trans (loop_eq _ _ _ _ _)
  have hlt := takeO_lt (st := st2) (lv := lv)
  generalize setO w6 W.heap.size ((st2.takeO lv).1.getD oprZ) = V at *
  refine ⟨heq, fun hb => by have := hlt hb; omega, (B5 _ (by omega)).trans (GW.row h.r2 (by omega)), (B5 _ (by omega)).trans (GW.row h.r3 (by omega)), R5, h.hc, RepNL.to (fun b hb => ?_) _ _ h.rep, h3, hb3, hR.go G5 S5, G5⟩
  have h1 := hb.1
  have h2 := hb.2.1
  exact ⟨⟨h1, by omega, hb.2.2, by omega⟩, (B5 b (by omega)).trans (GW.block b hb.2.1 (by omega))⟩

def b2n (b : Bool) : Nat := if b then 1 else 0

end Go.Proofs.YtlgdjeiendmniaaGreatDoor

namespace Go.Proofs.YtlgdjeiendmniaaGreatDoor
open Go.RowKit

def loopX (sb : Rdr) : Nat → PN → PS → PN × PS
  | 0, n, st => (n, st)
  | f + 1, n, st => match st.oper 7 with
    | none => (n, st)
    | some o => loopX sb f (o.node [n, (sb st).1]) (sb st).2
theorem ix_loopX (len : Nat) (ex : Rdr) : ∀ (f : Nat) (n : PN) (st : PS), ixLoopP len ex f n st = loopX (inBrP len ex ⟨#[93]⟩) f n st
  | 0, n, st => rfl
  | f + 1, n, st => by
    rw [ixLoopP, loopX]
    cases st.oper 7 with
    | none => rfl
    | some o => exact ix_loopX len ex f _ _
theorem loopX_eq (sb : Rdr) (j : Nat) (p : PN) (st : PS) : loopX sb (j + 1) p st = if (st.oper 7).isSome then loopX sb j (((st.oper 7).getD oprZ).node [p, (sb st).1]) (sb st).2 else (p, st) := by
  rw [loopX]
  cases h : st.oper 7 <;> rfl

theorem fail_ts (st : PS) (len : Nat) (c : Int) : (st.fail len c).ts = [] := by unfold PS.fail; split <;> rfl
theorem enter_le (st : PS) (len : Nat) : (st.enter len).ts.length ≤ st.ts.length := by
  unfold PS.enter
  split
  · rw [fail_ts]; exact Nat.zero_le _
  · exact Nat.le_refl _
theorem sign_le (st : PS) (len : Nat) (s : ByteArray) : (st.sign len s).ts.length ≤ st.ts.length := by
  unfold PS.sign
  split
  · simp [PS.next]
  · rw [fail_ts]; exact Nat.zero_le _
theorem inBr_lt {st : PS} {len : Nat} {ex : Rdr} (c : ByteArray) (hsh : ∀ s, (ex s).2.ts.length ≤ s.ts.length) (h : st.ts ≠ []) : (inBrP len ex c st).2.ts.length < st.ts.length := by
  have h1 := enter_le st len
  have h2 := hsh (st.enter len).next
  have h3 := sign_le (ex (st.enter len).next).2 len c
  have h4 : (st.enter len).next.ts.length = (st.enter len).ts.length - 1 := by simp [PS.next]
  have h5 : 0 < st.ts.length := List.length_pos_iff.2 h
  show ((ex (st.enter len).next).2.sign len c).ts.length < _
  omega
theorem oper_some_ne {st : PS} {lv : Int} (h : (st.oper lv).isSome = true) : st.ts ≠ [] := by
  intro e
  obtain ⟨z, hz⟩ := Option.isSome_iff_exists.1 h
  have := oper_ne hz
  rw [e] at this
  simp at this

/-- What holds at the head of a level's loop. -/
structure IxI (sb : Rdr) (g len : Nat) (w wr : World) (R : PN × PS) (b3 b4 : Nat) (bb : Bool) (k o : Int) (s : ByteArray) (n : Int) (l : List PN) (a : Option Addr) (cap : Nat) (z : Opr) (stc : PS) (j : Nat) : Prop where
  eq : R = if bb then loopX sb j (z.node [⟨k, o, s, n, l⟩, (sb stc).1]) (sb stc).2 else (⟨k, o, s, n, l⟩, stc)
  fuel : bb = true → (sb stc).2.ts.length < j
  r2 : wr.heap[w.heap.size]? = some (nodO 0 0 emptyB 0 (.slice none 0 0))
  r3 : wr.heap[b3]? = some (nodO k o s n (.slice a l.length cap))
  r4 : wr.heap[b4]? = some (oprO z)
  hc : l.length ≤ cap
  rep : RepNL wr (fun b => w.heap.size < b ∧ b < wr.heap.size ∧ b ≠ b3 ∧ b ≠ b4) l a
  h3 : w.heap.size < b3
  h34 : b3 < b4
  rs : Rs wr g len stc
  gr : Gr g w wr

/-- What holds of a level's loop when a node was made and no operator is looked for yet. -/
structure IxM (sb : Rdr) (g len : Nat) (w W : World) (R : PN × PS) (b3 : Nat) (k o : Int) (s : ByteArray) (n : Int) (l : List PN) (a : Option Addr) (cap : Nat) (st2 : PS) (j : Nat) : Prop where
  eq : R = loopX sb j ⟨k, o, s, n, l⟩ st2
  fuel : st2.ts.length < j
  r2 : W.heap[w.heap.size]? = some (nodO 0 0 emptyB 0 (.slice none 0 0))
  r3 : W.heap[b3]? = some (nodO k o s n (.slice a l.length cap))
  hc : l.length ≤ cap
  rep : RepNL W (fun b => w.heap.size < b ∧ b < W.heap.size ∧ b ≠ b3) l a
  h3 : w.heap.size < b3
  rs : Rs W g len st2
  gr : Gr g w W

theorem IxM.of {sb : Rdr} {g len : Nat} {w wr w3 w4 : World} {R : PN × PS} {b3 b4 : Nat} {k o : Int} {s : ByteArray} {n : Int} {l : List PN} {a : Option Addr} {cap : Nat} {z : Opr} {st0 stc st2 : PS} {j : Nat} {k2 o2 : Int} {s2 : ByteArray} {n2 : Int} {l2 : List PN} {a2 : Option Addr} {cap2 : Nat} {t : TypeId}
    (hR : Rs w g len st0) (h : IxI sb g len w wr R b3 b4 true k o s n l a cap z stc j) (hq : R = loopX sb j (z.node [⟨k, o, s, n, l⟩, ⟨k2, o2, s2, n2, l2⟩]) st2) (hl : st2.ts.length < j) (X3 : Gr g wr w3) (S3 : St w3 g len st2) (hc2 : l2.length ≤ cap2) (L3 : RepNL w3 (Fr wr.heap.size w3.heap.size) l2 a2) (X4 : Ext w3 w4)
    (RI : w4.heap[w3.heap.size]? = some (.cells #[.int .i64 k, .int .i64 o, .string s, .int .i64 n, .slice a l.length cap, .int .i64 k2, .int .i64 o2, .string s2, .int .i64 n2, .slice a2 l2.length cap2] t (0, 0))) :
    IxM sb g len w (set5 w4 b3 z.k z.o emptyB 0 (.slice (some ⟨w3.heap.size, 0, none⟩) 2 2)) R b3 z.k z.o emptyB 0 [⟨k, o, s, n, l⟩, ⟨k2, o2, s2, n2, l2⟩] (some ⟨w3.heap.size, 0, none⟩) 2 st2 j := by
  have hg : g < w.heap.size := hR.st.lt
  have h3 := h.h3
  have h34 := h.h34
  have hb4 : b4 < wr.heap.size := (Array.getElem?_eq_some_iff.1 h.r4).1
  have hlt : w3.heap.size < w4.heap.size := (Array.getElem?_eq_some_iff.1 RI).1
  have X34 : Gr g wr w4 := X3.trans (Gr.of X4)
  have hsz := X3.size
  have G5 : Gr g w (set5 w4 b3 z.k z.o emptyB 0 (.slice (some ⟨w3.heap.size, 0, none⟩) 2 2)) := (h.gr.trans X34).set5 (by omega) _ _ _ _ _
  have S5 := (S3.ext X4).set5 (b := b3) (by omega) z.k z.o emptyB 0 (.slice (some ⟨w3.heap.size, 0, none⟩) 2 2)
  have Z5 := set5_size w4 b3 z.k z.o emptyB 0 (.slice (some ⟨w3.heap.size, 0, none⟩) 2 2)
  have B5 : ∀ x, x ≠ b3 → (set5 w4 b3 z.k z.o emptyB 0 (.slice (some ⟨w3.heap.size, 0, none⟩) 2 2)).heap[x]? = w4.heap[x]? := fun x hx => set5_block hx _ _ _ _ _
  have R5 := set5_row (X34.row h.r3 (by omega)) z.k z.o emptyB 0 (.slice (some ⟨w3.heap.size, 0, none⟩) 2 2)
  generalize set5 w4 b3 z.k z.o emptyB 0 (.slice (some ⟨w3.heap.size, 0, none⟩) 2 2) = W at *
  have hr2 : W.heap[w.heap.size]? = some (nodO 0 0 emptyB 0 (.slice none 0 0)) := (B5 _ (by omega)).trans (X34.row h.r2 (by omega))
  have hp1 : RepNL W (fun b => w.heap.size < b ∧ b < W.heap.size ∧ b ≠ b3) l a := RepNL.to (fun b hb => ⟨⟨hb.1, by omega, hb.2.2.1⟩, (B5 b hb.2.2.1).trans (X34.block b hb.2.1 (by omega))⟩) _ _ h.rep
  have hp2 : RepNL W (fun b => w.heap.size < b ∧ b < W.heap.size ∧ b ≠ b3) l2 a2 := RepNL.to (fun b hb => by
    have h1 := hb.1
    have h2 := hb.2
    exact ⟨⟨by omega, by omega, by omega⟩, (B5 b (by omega)).trans (X4.block b hb.2)⟩) _ _ L3
  have hpr := pair_rep (F := fun b => w.heap.size < b ∧ b < W.heap.size ∧ b ≠ b3) ((B5 _ (by omega)).trans RI) ⟨by omega, by omega, by omega⟩ h.hc hc2 hp1 hp2
  have hfu := hl
  exact ⟨hq, by omega, hr2, R5, Nat.le_refl _, hpr, h3, hR.go G5 S5, G5⟩

theorem IxM.head {sb : Rdr} {g len : Nat} {w W w6 : World} {R : PN × PS} {b3 : Nat} {k o : Int} {s : ByteArray} {n : Int} {l : List PN} {a : Option Addr} {cap : Nat} {z : Opr} {st0 st2 : PS} {j : Nat}
    (hR : Rs w g len st0) (h : IxM sb g len w W R b3 k o s n l a cap st2 (j + 1)) (hdec : (st2.oper 7).isSome = true → (sb st2).2.ts.length < st2.ts.length) (X6 : Gr g (W.alloc (oprO z)) w6) (S6 : St w6 g len st2) :
    IxI sb g len w (setO w6 W.heap.size ((st2.oper 7).getD oprZ)) R b3 W.heap.size (st2.oper 7).isSome k o s n l a cap ((st2.oper 7).getD oprZ) st2 j := by
  have hg : g < w.heap.size := hR.st.lt
  have h3 := h.h3
  have hb3 : b3 < W.heap.size := (Array.getElem?_eq_some_iff.1 h.r3).1
  have hf := h.fuel
  have hs6 := X6.size
  rw [size_alloc] at hs6
  have hgs := h.gr.size
  have GW : Gr g W w6 := (Gr.of (Ext.alloc _ _)).trans X6
  have G5 := (h.gr.trans GW).setO (b := W.heap.size) hgs ((st2.oper 7).getD oprZ)
  have S5 := S6.setO (b := W.heap.size) (by omega) ((st2.oper 7).getD oprZ)
  have B5 : ∀ x, x ≠ W.heap.size → (setO w6 W.heap.size ((st2.oper 7).getD oprZ)).heap[x]? = w6.heap[x]? := fun x hx => by
    rw [Below.heap_setCell _ _ _ _ hx, Below.heap_setCell _ _ _ _ hx, Below.heap_setCell _ _ _ _ hx, Below.heap_setCell _ _ _ _ hx]
  have Z5 : (setO w6 W.heap.size ((st2.oper 7).getD oprZ)).heap.size = w6.heap.size := by simp [World.setCell]
  have R5 := setO_row (X6.row (Go.heap_alloc_new W _) (by omega)) ((st2.oper 7).getD oprZ)
  have heq := h.eq.trans (loopX_eq _ _ _ _)
  have hlt := hdec
  generalize setO w6 W.heap.size ((st2.oper 7).getD oprZ) = V at *
  refine ⟨heq, fun hb => by have := hlt hb; omega, (B5 _ (by omega)).trans (GW.row h.r2 (by omega)), (B5 _ (by omega)).trans (GW.row h.r3 (by omega)), R5, h.hc, RepNL.to (fun b hb => ?_) _ _ h.rep, h3, hb3, hR.go G5 S5, G5⟩
  have h1 := hb.1
  have h2 := hb.2.1
  exact ⟨⟨h1, by omega, hb.2.2, by omega⟩, (B5 b (by omega)).trans (GW.block b hb.2.1 (by omega))⟩

end Go.Proofs.YtlgdjeiendmniaaGreatDoor
