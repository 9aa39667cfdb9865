/- A row of trees under way whose slice lies in a variable of the call's own; a region whose ways out are normal. -/
import Derived.Test.YtbcflcnkhhkogaaGreatDoorZb18
set_option linter.unusedSimpArgs false
set_option linter.unusedVariables false
set_option maxRecDepth 10000

namespace Go.Proofs.YtbcflcnkhhkogaaGreatDoor
open Go.RowKit

/-- Out by the normal way alone. -/
def Nrm (Q : Exit → Act → World → Prop) : Exit → Act → World → Prop
  | .normal, a, w => Q .normal a w
  | _, _, _ => False
theorem wp_nrm {P : Program} {c : Code} {Q : Exit → Act → World → Prop} {a : Act} {w : World} (h : c.wp P (Nrm Q) a w) : c.wp P Q a w :=
  Code.wp_mono (fun e a w hq => by cases e <;> first | exact hq | exact hq.elim) h

/-- A row of trees in blocks from base on. -/
structure HoldB (base : Nat) (wr : World) (ps : List PN) (ao : Option Addr) (cap : Nat) : Prop where
  own : ∃ xs, wr.ownsRow base 25 5 (.slice ao ps.length cap) ps.length xs ∧ RowN wr (fun b => base ≤ b ∧ b < wr.heap.size ∧ some b ≠ (Value.slice ao ps.length cap).ownBlock) ps xs

theorem HoldB.nil (base : Nat) (wr : World) : HoldB base wr [] none 0 := ⟨[], World.ownsRow_nil _ _ _ _, rfl⟩

theorem heldB_on {x base : Nat} {wr w2 : World} {acc : List PN} {v : Value} {n : Nat} {xs : List Value} (hx : wr.ownsRow base 25 5 v n xs ∧ RowN wr (fun b => base ≤ b ∧ b < wr.heap.size ∧ some b ≠ v.ownBlock) acc xs) (k : Gr x wr w2) (hb : x < base) :
    w2.ownsRow base 25 5 v n xs ∧ RowN w2 (fun b => base ≤ b ∧ b < w2.heap.size ∧ some b ≠ v.ownBlock) acc xs :=
  ⟨own_gr hx.1 k hb, RowN.to (fun b hb => ⟨⟨hb.1, Nat.lt_of_lt_of_le hb.2.1 k.size, hb.2.2⟩, k.block b hb.2.1 (by have := hb.1; omega)⟩) hx.2⟩
theorem HoldB.on {x base : Nat} {wr w2 : World} {ps : List PN} {ao : Option Addr} {cap : Nat} (h : HoldB base wr ps ao cap) (k : Gr x wr w2) (hx : x < base) : HoldB base w2 ps ao cap := by
  obtain ⟨xs, hx2⟩ := h.own
  exact ⟨xs, heldB_on hx2 k hx⟩

theorem HoldB.done {base : Nat} {wr : World} {ps : List PN} {ao : Option Addr} {cap : Nat} (h : HoldB base wr ps ao cap) : ps.length ≤ cap ∧ RepNL wr (Fr base wr.heap.size) ps ao := by
  obtain ⟨xs, ho, hr⟩ := h.own
  obtain ⟨hlen, ⟨e, h0⟩ | ⟨b, cap2, cur, e, hb, hrow, hc, _⟩⟩ := id ho
  · have : ps = [] := List.length_eq_zero_iff.1 h0
    subst this
    exact ⟨Nat.zero_le _, by simp [RepNL]⟩
  · injection e with e1 e2 e3
    subst e1 e3
    refine ⟨hc, RowN.repL (g := b) ⟨hb, (Array.getElem?_eq_some_iff.1 hrow).1⟩ (RowN.to (fun x hx => ⟨⟨hx.1, hx.2.1⟩, rfl⟩) hr) (cells_own ho)⟩

/-- What an append onto such a row leaves as it was. -/
theorem below_grown {base : Nat} {w2 w3 : World} {e : TypeId} {size n : Nat} {v : Value} {xs : List Value} (hown : w2.ownsRow base e size v n xs) (hgw : w2.grownBy w3 v.ownBlock) : ∀ k, k < base → k < w2.heap.size → w3.heap[k]? = w2.heap[k]? :=
  fun k hk hk2 => hgw.block k hk2 (fun e => by have := (hown.lt k e.symm).1; omega)
theorem Gr.append {g base : Nat} {w w2 w3 : World} {e : TypeId} {size n : Nat} {v : Value} {xs : List Value} (hgr : Gr g w w2) (hown : w2.ownsRow base e size v n xs) (hb : w.heap.size ≤ base) (hgw : w2.grownBy w3 v.ownBlock) : Gr g w w3 :=
  ⟨hgw.os.trans hgr.os, hgw.tape.trans hgr.tape, hgw.output.trans hgr.output, Nat.le_trans hgr.size hgw.size, fun k hk hk2 => (below_grown hown hgw k (by omega) (Nat.lt_of_lt_of_le hk hgr.size)).trans (hgr.block k hk hk2)⟩
theorem St.append {g len base : Nat} {w2 w3 : World} {st : PS} {e : TypeId} {size n : Nat} {v : Value} {xs : List Value} (h : St w2 g len st) (hg : g < base) (hown : w2.ownsRow base e size v n xs) (hgw : w2.grownBy w3 v.ownBlock) : St w3 g len st := by
  have hlt := h.lt
  obtain ⟨T, h1, a, cap, rfl, h3, h4, h5⟩ := h.ex
  have hk := below_grown hown hgw
  refine ⟨⟨_, (hk g hg hlt).trans h1, a, cap, rfl, h3, h4, ?_⟩⟩
  rcases h5 with h5 | ⟨b, off, rfl, hb, hc⟩
  · exact Or.inl h5
  · exact Or.inr ⟨b, off, rfl, hb, fun j u hu => by rw [World.cell?_of_block (w := w2) (hk b (by omega) (by omega))]; exact hc j u hu⟩

/-- One tree more, behind the append. -/
theorem HoldB.snoc {base : Nat} {w2 w3 : World} {ps : List PN} {ao : Option Addr} {cap g' cap' : Nat} {p : PN} {a : Option Addr} {c : Nat} {xs : List Value}
    (hx : RowN w2 (fun b => base ≤ b ∧ b < w2.heap.size ∧ some b ≠ (Value.slice ao ps.length cap).ownBlock) ps xs)
    (ho : w3.ownsRow base 25 5 (.slice (some ⟨g', 0, none⟩) (ps.length + 1) cap') (ps.length + 1) (xs ++ ndC p a c))
    (hb : p.l.length ≤ c) (hp : RepNL w2 (fun b => base ≤ b ∧ b < w2.heap.size ∧ some b ≠ (Value.slice ao ps.length cap).ownBlock) p.l a)
    (hgw : w2.grownBy w3 (Value.slice ao ps.length cap).ownBlock) (hw : (Value.slice ao ps.length cap).ownBlock = some g' ∨ w2.heap.size ≤ g') :
    HoldB base w3 (ps ++ [p]) (some ⟨g', 0, none⟩) cap' := by
  have hlen : (ps ++ [p]).length = ps.length + 1 := by simp
  have hF : ∀ b, (base ≤ b ∧ b < w2.heap.size ∧ some b ≠ (Value.slice ao ps.length cap).ownBlock) →
      (base ≤ b ∧ b < w3.heap.size ∧ some b ≠ (Value.slice (some ⟨g', 0, none⟩) (ps ++ [p]).length cap').ownBlock) ∧ w3.heap[b]? = w2.heap[b]? := by
    intro b hb
    refine ⟨⟨hb.1, Nat.lt_of_lt_of_le hb.2.1 hgw.size, ?_⟩, hgw.block b hb.2.1 hb.2.2⟩
    intro e
    simp only [Value.ownBlock, Option.some.injEq] at e
    rcases hw with e2 | e2
    · exact hb.2.2 (by rw [e2, e])
    · omega
  exact ⟨_, by rw [hlen]; exact ho, RowN.snoc hb (RepNL.to hF _ _ hp) (RowN.to hF hx)⟩

/-- What holds at the head of a block's loop. -/
structure BlkI (g len : Nat) (sm : Rdr) (w wr : World) (F : List PN × PS) (stc : PS) (k : Nat) (acc : List PN) (ao : Option Addr) (cap : Nat) : Prop where
  eq : F = blkLoop sm k acc stc
  fuel : stc.ts.length < k
  bnd : acc.length + stc.ts.length ≤ 100001
  rs : Rs wr g len stc
  gr : Gr g w wr
  r2 : wr.heap[w.heap.size]? = some (nodO 0 0 emptyB 0 (.slice none 0 0))
  r3 : wr.heap[w.heap.size + 1]? = some (nodO 10 0 emptyB 0 (.slice ao acc.length cap))
  hold : HoldB (w.heap.size + 2) wr acc ao cap

/-- Behind an append of the tree that was read last, and the store of the slice. -/
theorem BlkI.snoc {g len : Nat} {sm : Rdr} {w wr w5 w6 : World} {F : List PN × PS} {stc st5 : PS} {j : Nat} {acc : List PN} {ao : Option Addr} {cap g' cap' : Nat} {k o n : Int} {s : ByteArray} {l : List PN} {a : Option Addr} {c : Nat} {xs : List Value}
    {st0 : PS} (hR : Rs w g len st0) (h : BlkI g len sm w wr F stc (j + 1) acc ao cap) (hq : F = blkLoop sm j (acc ++ [⟨k, o, s, n, l⟩]) st5) (hl : st5.ts.length < stc.ts.length) (X5 : Gr g wr w5) (S5 : St w5 g len st5) (hc : l.length ≤ c) (L5 : RepNL w5 (Fr wr.heap.size w5.heap.size) l a) (ob : Obj)
    (hx : (w5.alloc ob).ownsRow (w.heap.size + 2) 25 5 (.slice ao acc.length cap) acc.length xs ∧ RowN (w5.alloc ob) (fun b => w.heap.size + 2 ≤ b ∧ b < (w5.alloc ob).heap.size ∧ some b ≠ (Value.slice ao acc.length cap).ownBlock) acc xs)
    (ho : w6.ownsRow (w.heap.size + 2) 25 5 (.slice (some ⟨g', 0, none⟩) (acc.length + 1) cap') (acc.length + 1) (xs ++ [.int .i64 k, .int .i64 o, .string s, .int .i64 n, .slice a l.length c]))
    (hgw : (w5.alloc ob).grownBy w6 (Value.slice ao acc.length cap).ownBlock) (hw0 : (Value.slice ao acc.length cap).ownBlock = some g' ∨ w5.heap.size + 1 ≤ g') :
    BlkI g len sm w (w6.setCell ⟨w.heap.size + 1, 4, none⟩ (.slice (some ⟨g', 0, none⟩) (acc.length + 1) cap')) F st5 j (acc ++ [⟨k, o, s, n, l⟩]) (some ⟨g', 0, none⟩) cap' := by
  have hg : g < w.heap.size := hR.st.lt
  have hr3 : w.heap.size + 1 < wr.heap.size := (Array.getElem?_eq_some_iff.1 h.r3).1
  have hsz := X5.size
  have hw : (Value.slice ao acc.length cap).ownBlock = some g' ∨ (w5.alloc ob).heap.size ≤ g' := by rw [size_alloc]; exact hw0
  have hk := below_grown hx.1 hgw
  have G5 : Gr g wr (w5.alloc ob) := X5.alloc ob
  have hz5 : (w5.alloc ob).heap.size = w5.heap.size + 1 := size_alloc _ _
  have hp : RepNL (w5.alloc ob) (fun b => w.heap.size + 2 ≤ b ∧ b < (w5.alloc ob).heap.size ∧ some b ≠ (Value.slice ao acc.length cap).ownBlock) l a := by
    obtain ⟨ys, hy, _⟩ := h.hold.own
    exact RepNL.to (fun b hb => ⟨⟨by have := hb.1; omega, by have := hb.2; omega, fun e => by have := (hy.lt b e.symm).2; have := hb.1; omega⟩, (Ext.alloc w5 ob).block b hb.2⟩) _ _ L5
  have H6 : HoldB (w.heap.size + 2) w6 (acc ++ [⟨k, o, s, n, l⟩]) (some ⟨g', 0, none⟩) cap' := HoldB.snoc (p := ⟨k, o, s, n, l⟩) hx.2 ho hc hp hgw hw
  have G6 : Gr g w w6 := Gr.append (h.gr.trans G5) hx.1 (by omega) hgw
  have S6 : St w6 g len st5 := (S5.alloc ob).append (by omega) hx.1 hgw
  have K6 : Gr (w.heap.size + 1) w6 (w6.setCell ⟨w.heap.size + 1, 4, none⟩ (.slice (some ⟨g', 0, none⟩) (acc.length + 1) cap')) := (Gr.refl _ _).set (p := ⟨w.heap.size + 1, 4, none⟩) (Or.inr rfl) _
  have hln : (acc ++ [(⟨k, o, s, n, l⟩ : PN)]).length = acc.length + 1 := by simp
  have R3 : w6.heap[w.heap.size + 1]? = some (nodO 10 0 emptyB 0 (.slice ao acc.length cap)) := (hk _ (by omega) (by omega)).trans (G5.row h.r3 (by omega))
  have G7 := G6.set (p := ⟨w.heap.size + 1, 4, none⟩) (Or.inl (by show w.heap.size ≤ w.heap.size + 1; omega)) (.slice (some ⟨g', 0, none⟩) (acc.length + 1) cap')
  have R2 : w6.heap[w.heap.size]? = some (nodO 0 0 emptyB 0 (.slice none 0 0)) := (hk _ (by omega) (by omega)).trans (G5.row h.r2 (by omega))
  exact ⟨hq, by have := h.fuel; omega, by rw [hln]; have := h.bnd; omega, hR.go G7 (S6.set (b := w.heap.size + 1) (by omega) _ _), G7, row_other R2 (by omega) _ _, by rw [hln]; exact row_set R3 4 _, H6.on K6 (by omega)⟩

end Go.Proofs.YtbcflcnkhhkogaaGreatDoor
