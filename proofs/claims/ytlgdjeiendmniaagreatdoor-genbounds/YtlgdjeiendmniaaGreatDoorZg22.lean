/- A row of trees under way whose slice lies in a variable of the call's own; a region whose ways out are normal. · Blocks. · What stands behind an else. -/
import Derived.Test.YtlgdjeiendmniaaGreatDoorZg21
set_option linter.unusedSimpArgs false
set_option linter.unusedVariables false
set_option maxRecDepth 10000

namespace Go.Proofs.YtlgdjeiendmniaaGreatDoor
open Go.RowKit

/-- Out by the normal way alone. -/
def Nrm (Q : Exit → Act → World → Prop) : Exit → Act → World → Prop
  | .normal, a, w => Q .normal a w
  | _, _, _ => False
theorem wp_nrm {P : Program} {c : Code} {Q : Exit → Act → World → Prop} {a : Act} {w : World} (h : c.wp P (Nrm Q) a w) : c.wp P Q a w :=
  Code.wp_mono (fun e a w hq => by cases e <;> first | exact hq | exact hq.elim) h

/-- A row of trees in blocks from base on. -/
structure HoldB (base : Nat) (wr : World) (ps : List PN) (ao : Option Addr) (cap : Nat) : Prop where
  own : ∃ xs, wr.ownsRow base 60 5 (.slice ao ps.length cap) ps.length xs ∧ RowN wr (fun b => base ≤ b ∧ b < wr.heap.size ∧ some b ≠ (Value.slice ao ps.length cap).ownBlock) ps xs

theorem HoldB.nil (base : Nat) (wr : World) : HoldB base wr [] none 0 := ⟨[], World.ownsRow_nil _ _ _ _, rfl⟩

theorem heldB_on {x base : Nat} {wr w2 : World} {acc : List PN} {v : Value} {n : Nat} {xs : List Value} (hx : wr.ownsRow base 60 5 v n xs ∧ RowN wr (fun b => base ≤ b ∧ b < wr.heap.size ∧ some b ≠ v.ownBlock) acc xs) (k : Gr x wr w2) (hb : x < base) :
    w2.ownsRow base 60 5 v n xs ∧ RowN w2 (fun b => base ≤ b ∧ b < w2.heap.size ∧ some b ≠ v.ownBlock) acc xs :=
  ⟨own_gr hx.1 k hb, RowN.to (fun b hb => ⟨⟨hb.1, Nat.lt_of_lt_of_le hb.2.1 k.size, hb.2.2⟩, k.block b hb.2.1 (by have := hb.1; omega)⟩) hx.2⟩
theorem HoldB.on {x base : Nat} {wr w2 : World} {ps : List PN} {ao : Option Addr} {cap : Nat} (h : HoldB base wr ps ao cap) (k : Gr x wr w2) (hx : x < base) : HoldB base w2 ps ao cap := by
  obtain ⟨xs, hx2⟩ := h.own
  exact ⟨xs, heldB_on hx2 k hx⟩

theorem HoldB.done {base : Nat} {wr : World} {ps : List PN} {ao : Option Addr} {cap : Nat} (h : HoldB base wr ps ao cap) : ps.length ≤ cap ∧ RepNL wr (Fr base wr.heap.size) ps ao := by
  obtain ⟨xs, ho, hr⟩ := h.own
  obtain ⟨hlen, ⟨e, h0⟩ | ⟨b, cap2, cur, e, hb, hrow, hc, _⟩⟩ := id ho
  · have : ps = [] := List.length_eq_zero_iff.1 h0
    subst this
    exact ⟨Nat.zero_le _, by simp [RepNL]⟩
  · injection e with e1 e2 e3
    subst e1 e3
    refine ⟨hc, RowN.repL (g := b) ⟨hb, (Array.getElem?_eq_some_iff.1 hrow).1⟩ (RowN.to (fun x hx => ⟨⟨hx.1, hx.2.1⟩, rfl⟩) hr) (cells_own ho)⟩

/-- What an append onto such a row leaves as it was. -/
theorem below_grown {base : Nat} {w2 w3 : World} {e : TypeId} {size n : Nat} {v : Value} {xs : List Value} (hown : w2.ownsRow base e size v n xs) (hgw : w2.grownBy w3 v.ownBlock) : ∀ k, k < base → k < w2.heap.size → w3.heap[k]? = w2.heap[k]? :=
  fun k hk hk2 => hgw.block k hk2 (fun e => by have := (hown.lt k e.symm).1; omega)
theorem Gr.append {g base : Nat} {w w2 w3 : World} {e : TypeId} {size n : Nat} {v : Value} {xs : List Value} (hgr : Gr g w w2) (hown : w2.ownsRow base e size v n xs) (hb : w.heap.size ≤ base) (hgw : w2.grownBy w3 v.ownBlock) : Gr g w w3 :=
  ⟨hgw.os.trans hgr.os, hgw.tape.trans hgr.tape, hgw.output.trans hgr.output, Nat.le_trans hgr.size hgw.size, fun k hk hk2 => (below_grown hown hgw k (by omega) (Nat.lt_of_lt_of_le hk hgr.size)).trans (hgr.block k hk hk2)⟩
theorem St.append {g len base : Nat} {w2 w3 : World} {st : PS} {e : TypeId} {size n : Nat} {v : Value} {xs : List Value} (h : St w2 g len st) (hg : g < base) (hown : w2.ownsRow base e size v n xs) (hgw : w2.grownBy w3 v.ownBlock) : St w3 g len st := by
  have hlt := h.lt
  obtain ⟨T, h1, a, cap, rfl, h3, h4, h5⟩ := h.ex
  have hk := below_grown hown hgw
  refine ⟨⟨_, (hk g hg hlt).trans h1, a, cap, rfl, h3, h4, ?_⟩⟩
  rcases h5 with h5 | ⟨b, off, rfl, hb, hc⟩
  · exact Or.inl h5
  · exact Or.inr ⟨b, off, rfl, hb, fun j u hu => by rw [World.cell?_of_block (w := w2) (hk b (by omega) (by omega))]; exact hc j u hu⟩

/-- One tree more, behind the append. -/
theorem HoldB.snoc {base : Nat} {w2 w3 : World} {ps : List PN} {ao : Option Addr} {cap g' cap' : Nat} {p : PN} {a : Option Addr} {c : Nat} {xs : List Value}
    (hx : RowN w2 (fun b => base ≤ b ∧ b < w2.heap.size ∧ some b ≠ (Value.slice ao ps.length cap).ownBlock) ps xs)
    (ho : w3.ownsRow base 60 5 (.slice (some ⟨g', 0, none⟩) (ps.length + 1) cap') (ps.length + 1) (xs ++ ndC p a c))
    (hb : p.l.length ≤ c) (hp : RepNL w2 (fun b => base ≤ b ∧ b < w2.heap.size ∧ some b ≠ (Value.slice ao ps.length cap).ownBlock) p.l a)
    (hgw : w2.grownBy w3 (Value.slice ao ps.length cap).ownBlock) (hw : (Value.slice ao ps.length cap).ownBlock = some g' ∨ w2.heap.size ≤ g') :
    HoldB base w3 (ps ++ [p]) (some ⟨g', 0, none⟩) cap' := by
  have hlen : (ps ++ [p]).length = ps.length + 1 := by simp
  have hF : ∀ b, (base ≤ b ∧ b < w2.heap.size ∧ some b ≠ (Value.slice ao ps.length cap).ownBlock) →
      (base ≤ b ∧ b < w3.heap.size ∧ some b ≠ (Value.slice (some ⟨g', 0, none⟩) (ps ++ [p]).length cap').ownBlock) ∧ w3.heap[b]? = w2.heap[b]? := by
    intro b hb
    refine ⟨⟨hb.1, Nat.lt_of_lt_of_le hb.2.1 hgw.size, ?_⟩, hgw.block b hb.2.1 hb.2.2⟩
    intro e
    simp only [Value.ownBlock, Option.some.injEq] at e
    rcases hw with e2 | e2
    · exact hb.2.2 (by rw [e2, e])
    · omega
  exact ⟨_, by rw [hlen]; exact ho, RowN.snoc hb (RepNL.to hF _ _ hp) (RowN.to hF hx)⟩

/-- What holds at the head of a block's loop. -/
structure BlkI (g len : Nat) (sm : Rdr) (w wr : World) (F : List PN × PS) (stc : PS) (k : Nat) (acc : List PN) (ao : Option Addr) (cap : Nat) : Prop where
  eq : F = blkLoop sm k acc stc
  fuel : stc.ts.length < k
  bnd : acc.length + stc.ts.length ≤ 100001
  rs : Rs wr g len stc
  gr : Gr g w wr
  r2 : wr.heap[w.heap.size]? = some (nodO 0 0 emptyB 0 (.slice none 0 0))
  r3 : wr.heap[w.heap.size + 1]? = some (nodO 10 0 emptyB 0 (.slice ao acc.length cap))
  hold : HoldB (w.heap.size + 2) wr acc ao cap

/-- Behind an append of the tree that was read last, and the store of the slice. -/
theorem BlkI.snoc {g len : Nat} {sm : Rdr} {w wr w5 w6 : World} {F : List PN × PS} {stc st5 : PS} {j : Nat} {acc : List PN} {ao : Option Addr} {cap g' cap' : Nat} {k o n : Int} {s : ByteArray} {l : List PN} {a : Option Addr} {c : Nat} {xs : List Value}
    {st0 : PS} (hR : Rs w g len st0) (h : BlkI g len sm w wr F stc (j + 1) acc ao cap) (hq : F = blkLoop sm j (acc ++ [⟨k, o, s, n, l⟩]) st5) (hl : st5.ts.length < stc.ts.length) (X5 : Gr g wr w5) (S5 : St w5 g len st5) (hc : l.length ≤ c) (L5 : RepNL w5 (Fr wr.heap.size w5.heap.size) l a) (ob : Obj)
    (hx : (w5.alloc ob).ownsRow (w.heap.size + 2) 60 5 (.slice ao acc.length cap) acc.length xs ∧ RowN (w5.alloc ob) (fun b => w.heap.size + 2 ≤ b ∧ b < (w5.alloc ob).heap.size ∧ some b ≠ (Value.slice ao acc.length cap).ownBlock) acc xs)
    (ho : w6.ownsRow (w.heap.size + 2) 60 5 (.slice (some ⟨g', 0, none⟩) (acc.length + 1) cap') (acc.length + 1) (xs ++ [.int .i64 k, .int .i64 o, .string s, .int .i64 n, .slice a l.length c]))
    (hgw : (w5.alloc ob).grownBy w6 (Value.slice ao acc.length cap).ownBlock) (hw0 : (Value.slice ao acc.length cap).ownBlock = some g' ∨ w5.heap.size + 1 ≤ g') :
    BlkI g len sm w (w6.setCell ⟨w.heap.size + 1, 4, none⟩ (.slice (some ⟨g', 0, none⟩) (acc.length + 1) cap')) F st5 j (acc ++ [⟨k, o, s, n, l⟩]) (some ⟨g', 0, none⟩) cap' := by
  have hg : g < w.heap.size := hR.st.lt
  have hr3 : w.heap.size + 1 < wr.heap.size := (Array.getElem?_eq_some_iff.1 h.r3).1
  have hsz := X5.size
  have hw : (Value.slice ao acc.length cap).ownBlock = some g' ∨ (w5.alloc ob).heap.size ≤ g' := by rw [size_alloc]; exact hw0
  have hk := below_grown hx.1 hgw
  have G5 : Gr g wr (w5.alloc ob) := X5.alloc ob
  have hz5 : (w5.alloc ob).heap.size = w5.heap.size + 1 := size_alloc _ _
  have hp : RepNL (w5.alloc ob) (fun b => w.heap.size + 2 ≤ b ∧ b < (w5.alloc ob).heap.size ∧ some b ≠ (Value.slice ao acc.length cap).ownBlock) l a := by
    obtain ⟨ys, hy, _⟩ := h.hold.own
    exact RepNL.to (fun b hb => ⟨⟨by have := hb.1; omega, by have := hb.2; omega, fun e => by have := (hy.lt b e.symm).2; have := hb.1; omega⟩, (Ext.alloc w5 ob).block b hb.2⟩) _ _ L5
  have H6 : HoldB (w.heap.size + 2) w6 (acc ++ [⟨k, o, s, n, l⟩]) (some ⟨g', 0, none⟩) cap' := HoldB.snoc (p := ⟨k, o, s, n, l⟩) hx.2 ho hc hp hgw hw
  have G6 : Gr g w w6 := Gr.append (h.gr.trans G5) hx.1 (by omega) hgw
  have S6 : St w6 g len st5 := (S5.alloc ob).append (by omega) hx.1 hgw
  have K6 : Gr (w.heap.size + 1) w6 (w6.setCell ⟨w.heap.size + 1, 4, none⟩ (.slice (some ⟨g', 0, none⟩) (acc.length + 1) cap')) := (Gr.refl _ _).set (p := ⟨w.heap.size + 1, 4, none⟩) (Or.inr rfl) _
  have hln : (acc ++ [(⟨k, o, s, n, l⟩ : PN)]).length = acc.length + 1 := by simp
  have R3 : w6.heap[w.heap.size + 1]? = some (nodO 10 0 emptyB 0 (.slice ao acc.length cap)) := (hk _ (by omega) (by omega)).trans (G5.row h.r3 (by omega))
  have G7 := G6.set (p := ⟨w.heap.size + 1, 4, none⟩) (Or.inl (by show w.heap.size ≤ w.heap.size + 1; omega)) (.slice (some ⟨g', 0, none⟩) (acc.length + 1) cap')
  have R2 : w6.heap[w.heap.size]? = some (nodO 0 0 emptyB 0 (.slice none 0 0)) := (hk _ (by omega) (by omega)).trans (G5.row h.r2 (by omega))
  exact ⟨hq, by have := h.fuel; omega, by rw [hln]; have := h.bnd; omega, hR.go G7 (S6.set (b := w.heap.size + 1) (by omega) _ _), G7, row_other R2 (by omega) _ _, by rw [hln]; exact row_set R3 4 _, H6.on K6 (by omega)⟩

end Go.Proofs.YtlgdjeiendmniaaGreatDoor

namespace Go.Proofs.YtlgdjeiendmniaaGreatDoor
open Go.RowKit

theorem BlkI.shut {g len : Nat} {sm : Rdr} {w wr w6 : World} {F : List PN × PS} {stc st6 : PS} {k : Nat} {acc : List PN} {ao : Option Addr} {cap : Nat} (h : BlkI g len sm w wr F stc k acc ao cap) (hg : g < w.heap.size) (X : Gr g wr w6) (S : St w6 g len st6) :
    Tree g len w (⟨10, 0, emptyB, 0, acc⟩, st6) (.returned (nodV 10 0 emptyB 0 (.slice ao acc.length cap))) (set5 w6 w.heap.size 10 0 emptyB 0 (.slice ao acc.length cap)) := by
  obtain ⟨d1, d2⟩ := (h.hold.on X (by omega)).done
  exact tree_end hg S (h.gr.trans X) d1 (RepNL.to (fun b hb => ⟨⟨by have := hb.1; omega, hb.2⟩, rfl⟩) _ _ d2)

theorem enterStm (v : Value) (w : World) : (callFunc 117 #[v]).run Tryz.prog w = .ok (.enter 117 #[v]) w := by kernel_rfl

set_option maxHeartbeats 8000000 in
theorem blk_any (len g : Nat) (sm : Rdr) (f : Nat) (st : PS) (w : World) (hR : Rs w g len st) (hf : st.ts.length < f) (hf2 : f ≤ 100000) (hlt : st.ts ≠ [] → ∀ s : PS, s.ts ≠ [] → (sm s).2.ts.length < s.ts.length)
    (hsm : ∀ s : PS, s.ts.length < st.ts.length → ExIs g len 117 sm s w) :
    Calls Tryz.prog 79 #[.pointer (some ⟨g, 0, none⟩)] w (Tree g len w (blkP len sm f st)) := by
  have hg : g < w.heap.size := hR.st.lt
  unfold blkP
  have HS := hide (fun W (x : Ext w W) => isSign_any len g st ⟨#[123]⟩ W (hR.st.ext x))
  cases hb : st.isS ⟨#[123]⟩
  · rw [if_neg (by decide)]
    rw [hb] at HS
    have HF := hide (fun W (x : St W g len st) => fail_any len g st 10 W x)
    have HR := hide hR
    clear hR hlt hsm
    go_enter_defers Tryz.func79, Tryz.ntmps79
    go_wp2_with (first
      | (go_at_call 114; refine Calls.mono (unhide HS _ ((Ext.alloc w _).trans (Ext.alloc _ _))) ?_; rintro e w1 ⟨rfl, hw⟩; have RB := hide (hw.row ((Ext.alloc _ _).row (Go.heap_alloc_new w _))); have RN := hide (hw.row (Go.heap_alloc_new (w.alloc _) _)); have X1 := hide (((Ext.alloc w _).trans (Ext.alloc _ _)).trans hw); clear hw)
      | (go_at_call 110; refine Calls.mono (unhide HF _ ((unhide HR).st.ext (unhide X1))) ?_; rintro e w2 ⟨rfl, hs, hw⟩; have RC := hide (hw.row (unhide RB) (by omega)); have RD := hide (hw.row (unhide RN) (by simp; omega)); have r0 := rowC (unhide RC) 0 rfl; have r1 := rowC (unhide RC) 1 rfl; have r2 := rowC (unhide RC) 2 rfl; have r3 := rowC (unhide RC) 3 rfl; have r4 := rowC (unhide RC) 4 rfl; have rz := rowF (unhide RC); have d0 := rowC (unhide RD) 0 rfl; have d1 := rowC (unhide RD) 1 rfl; have d2 := rowC (unhide RD) 2 rfl; have d3 := rowC (unhide RD) 3 rfl; have d4 := rowC (unhide RD) 4 rfl; simp only [size_alloc] at d0 d1 d2 d3 d4; have S2 := hide hs; have X2 := hide ((Gr.of (unhide X1)).trans hw); clear hw hs))
    exact ⟨_, res_node rfl _ _ w.heap.size 10 0 emptyB 0 _ rfl (set5_row (unhide RC) _ _ _ _ _), tree_end (l := []) hg (unhide S2) (unhide X2) (Nat.zero_le _) (by simp [RepNL])⟩
  · rw [if_pos rfl]
    rw [hb] at HS
    have hne := isS_ne hb
    have HE := hide (fun W (x : St W g len st) => enter_p len g st W x)
    have HN := hide (fun W (x : St W g len (st.enter len)) => next_any len g (st.enter len) W x)
    have hl0 := enter_next_lt len hne
    have HX := hide hsm
    have HLT := hide (hlt hne)
    have HR := hide hR
    obtain ⟨F, hF⟩ : ∃ F, F = blkLoop sm f [] (st.enter len).next := ⟨_, rfl⟩
    rw [← hF]
    have HF := hide hF
    clear hR hlt hsm hF hb hne
    obtain ⟨i0, hi, hz0, hz1, hz2⟩ := info_parts infoN
    have HI := hide hi
    have Z0 := hide hz0
    have Z1 := hide hz1
    have Z2 := hide hz2
    clear hi hz0 hz1 hz2
    go_enter_defers Tryz.func79, Tryz.ntmps79
    go_wp2_with (first
      | (go_at_call 114; refine Calls.mono (unhide HS _ ((Ext.alloc w _).trans (Ext.alloc _ _))) ?_; rintro e w1 ⟨rfl, hw⟩; have RB := hide (hw.row ((Ext.alloc _ _).row (Go.heap_alloc_new w _))); have RN := hide (hw.row (Go.heap_alloc_new (w.alloc _) _)); have X1 := hide (((Ext.alloc w _).trans (Ext.alloc _ _)).trans hw); clear hw)
      | (go_at_call 115; refine Calls.mono (unhide HE _ ((unhide HR).st.ext (unhide X1))) ?_; rintro e w2 ⟨rfl, hs, hw⟩; have RB2 := hide (hw.row (unhide RB) (by omega)); have RN2 := hide (hw.row (unhide RN) (by simp; omega)); have S2 := hide hs; have X2 := hide ((Gr.of (unhide X1)).trans hw); clear hw hs)
      | (go_at_call 112; refine Calls.mono (unhide HN _ (unhide S2)) ?_; rintro e w3 ⟨rfl, hs, hw⟩; have RB3 := hide (hw.row (unhide RB2) (by omega)); have RN3 := hide (hw.row (unhide RN2) (by simp; omega)); have S3 := hide hs; have X3 := hide ((unhide X2).trans hw); clear hw hs))
    have MI : Hd (BlkI g len sm w w3 F (st.enter len).next f [] none 0) := ⟨unhide HF, by omega, by simp; omega, (unhide HR).go (unhide X3) (unhide S3), unhide X3, unhide RB3, by have h := unhide RN3; rw [size_alloc] at h; exact h, HoldB.nil _ _⟩
    clear RB RN X1 RB2 RN2 S2 X2 RB3 RN3 S3 X3 HF HE HN HS
    generalize (st.enter len).next = st3 at *
    go_loopw [] (fun wr => ∃ (acc : List PN) (ao : Option Addr) (cap : Nat) (stc : PS) (j : Nat), Hd (BlkI g len sm w wr F stc j acc ao cap) ∧ stc.ts.length < st.ts.length) (fun wr => leftN g wr)
    case atStart => exact ⟨_, _, _, st3, f, MI, hl0⟩
    case round =>
      clear MI
      obtain ⟨acc, ao, cap, stc, j, hM, hle⟩ := hrel
      have hfu := (unhide hM).fuel
      obtain ⟨j, rfl⟩ : ∃ i, j = i + 1 := ⟨j - 1, by omega⟩
      have HEn := hide (ended_any len g stc wr (unhide hM).rs.st)
      have HSg := hide (fun W (x : Ext wr W) => isSign_any len g stc ⟨#[125]⟩ W ((unhide hM).rs.st.ext x))
      have HG := hide (fun W (x : St W g len stc) => psign_any len g stc ⟨#[125]⟩ W x)
      cases hz : ((stc.ts.length : Int) == 0)
      · rw [hz] at HEn
        cases hb : stc.isS ⟨#[125]⟩
        · rw [hb] at HSg
          have hstop : stc.stop = false := by unfold PS.stop; rw [hz, hb]; rfl
          have hF2 : F = blkLoop sm j (acc ++ [(sm stc).1]) (sm stc).2 := by rw [(unhide hM).eq, blkLoop, hstop]; rfl
          have HF2 := hide hF2
          have HX1 := hide (unhide HX stc hle)
          have hl1 := unhide HLT stc (fun e => by rw [e] at hz; simp at hz)
          have hm0 : leftN g wr = stc.ts.length := left_st (unhide hM).rs.st
          have hbd := (unhide hM).bnd
          clear hF2 hstop hz hb HG
          unfold ExIs at HX1
          generalize sm stc = q at HX1 HF2 hl1
          obtain ⟨⟨k, o, s, n, l⟩, st5⟩ := q
          obtain ⟨xs, hx⟩ := (unhide hM).hold.own
          have HXS := hide (fun w2 (x : Gr g wr w2) => heldB_on hx x (by omega))
          clear hx
          generalize hA : acc.length = A at *
          have hr3 : w.heap.size + 1 < wr.heap.size := (Array.getElem?_eq_some_iff.1 (unhide hM).r3).1
          go_wp2_with (first
            | (go_at_call 48; refine Calls.mono (unhide HEn) ?_; rintro e w4 ⟨rfl, hw⟩; obtain rfl := hw.symm)
            | (go_at_call 114; refine Calls.mono (unhide HSg _ (Ext.refl _)) ?_; rintro e w4 ⟨rfl, hw⟩; have X4 := hide hw; have RF := hide (hw.row (unhide hM).r3); have d0 := rowC (unhide RF) 0 rfl; have d1 := rowC (unhide RF) 1 rfl; have d2 := rowC (unhide RF) 2 rfl; have d3 := rowC (unhide RF) 3 rfl; have d4 := rowC (unhide RF) 4 rfl; have hb4 : wr.heap.size ≤ w4.heap.size := hw.le; clear hw))
          have D0 : Hd (Gr g wr w4.drew) := (Gr.of (unhide X4)).drew
          have D1 : Hd (Rs w4.drew g len stc) := (unhide hM).rs.ext (Ext.drew (unhide X4))
          refine wp_nrm ?_
          first | skip; go_region_law (first
            | (refine step_call_one rfl 117 (.tmp 26) 77 rfl _ (by simp [Act.eval, Act.put]) (enterStm _ _) (Calls.mono (unhide HX1 _ ((unhide hM).gr.trans (unhide D0)) (unhide D1)) ?_); rintro e w5 ⟨v, rfl, hr, hs, hw⟩; rw [RepN] at hr; obtain ⟨a, c, rfl, hcap, hl⟩ := hr; have X5 := hide ((unhide D0).trans hw); have RG := hide ((unhide X5).row (unhide hM).r3 (by omega)); have d0 := rowC (unhide RG) 0 rfl; have d1 := rowC (unhide RG) 1 rfl; have d2 := rowC (unhide RG) 2 rfl; have d3 := rowC (unhide RG) 3 rfl; have d4 := rowC (unhide RG) 4 rfl; have S5 := hide hs; have L5 : Hd (RepNL w5 (Fr wr.heap.size w5.heap.size) l a) := RepNL.to (fun b hb => ⟨⟨Nat.le_trans hb4 hb.1, hb.2⟩, rfl⟩) _ _ hl; have hb5 : w.heap.size + 1 < w5.heap.size := (Array.getElem?_eq_some_iff.1 (unhide RG)).1; clear hw hs hl; refine ⟨_, rfl, ?_⟩)
            | (refine step_append_where rfl (.tmp 25) (.tmp 28) 58 rfl (w.heap.size + 2) 60 i0 (nodV 0 0 emptyB 0 (.slice none 0 0)) 5 64 Tryz.underlying58 (unhide HI) (unhide Z0) (unhide Z1) (unhide Z2) rfl (by decide) ao A cap xs (by simp [Act.eval, Act.put]) (unhide HXS _ ((unhide X5).alloc _)).1 ⟨w5.heap.size, 0, none⟩ 1 1 [.int .i64 k, .int .i64 o, .string s, .int .i64 n, .slice a l.length c] (by simp [Act.eval, Act.put]) (by decide) rfl (cells_new w5 _ _) (one_cells _ _ _ _ _ _ _) (by unfold maxLen; omega) (by omega) (by simp; omega) ?_; intro g2 cap6 w6 ho6 hg6 hw6; have RZ := hide ((below_grown (unhide HXS _ ((unhide X5).alloc _)).1 hg6 (w.heap.size + 1) (by omega) (by simp; omega)).trans ((Ext.alloc _ _).row (unhide RG))); have z0 := rowC (unhide RZ) 0 rfl; have z1 := rowC (unhide RZ) 1 rfl; have z2 := rowC (unhide RZ) 2 rfl; have z3 := rowC (unhide RZ) 3 rfl; have z4 := rowC (unhide RZ) 4 rfl; have zz := rowF (unhide RZ); have HO6 := hide ho6; have HG6 := hide hg6; have HW6 := hide hw6; clear ho6 hg6 hw6)) | fail
          all_goals
            subst hA
            have hN := BlkI.snoc (k := k) (o := o) (n := n) (s := s) (unhide HR) (unhide hM) (unhide HF2) hl1 (unhide X5) (unhide S5) hcap (unhide L5) _ (unhide HXS _ ((unhide X5).alloc _)) (unhide HO6) (unhide HG6) (by have h := unhide HW6; rw [size_alloc] at h; exact h)
            refine gen_world (F := fun W7 => Exit.inBlock 1 _ Exit.normal _ W7) ?_
            intro W7 hW7
            rw [← hW7] at hN
            have MN := hide hN
            have hm1 : leftN g W7 = st5.ts.length := left_st hN.rs.st
            clear hN hW7 HO6 HG6 HW6 RZ RG X5 S5 L5 z0 z1 z2 z3 z4 zz d0 d1 d2 d3 d4
            go_wp2_with fail
            go_roundw
            case rel => exact ⟨_, _, _, st5, j, MN, by omega⟩
            case measure => rw [hm0, hm1]; omega
        · rw [hb] at HSg
          have hstop : stc.stop = true := by unfold PS.stop; rw [hb, Bool.or_true]
          have hF2 : F = (acc, stc) := by rw [(unhide hM).eq, blkLoop, hstop]; rfl
          subst hF2
          clear hstop hz hb
          go_wp2_with (first
            | (go_at_call 48; refine Calls.mono (unhide HEn) ?_; rintro e w4 ⟨rfl, hw⟩; obtain rfl := hw.symm)
            | (go_at_call 114; refine Calls.mono (unhide HSg _ (Ext.refl _)) ?_; rintro e w5 ⟨rfl, hw⟩; have X5 := hide (Gr.of (g := g) hw); have S5 := hide ((unhide hM).rs.st.ext hw); clear hw)
            | (go_at_call 77; refine Calls.mono (unhide HG _ (unhide S5)) ?_; rintro e w6 ⟨rfl, hs, hw⟩; have X6 := hide ((unhide X5).trans hw); have RE := hide ((unhide X6).row (unhide hM).r2 (by omega)); have RF := hide ((unhide X6).row (unhide hM).r3 (by omega)); have r0 := rowC (unhide RE) 0 rfl; have r1 := rowC (unhide RE) 1 rfl; have r2 := rowC (unhide RE) 2 rfl; have r3 := rowC (unhide RE) 3 rfl; have r4 := rowC (unhide RE) 4 rfl; have rz := rowF (unhide RE); have d0 := rowC (unhide RF) 0 rfl; have d1 := rowC (unhide RF) 1 rfl; have d2 := rowC (unhide RF) 2 rfl; have d3 := rowC (unhide RF) 3 rfl; have d4 := rowC (unhide RF) 4 rfl; have S6 := hide hs; clear hw hs))
          have T6 := (unhide hM).shut hg (unhide X6) (unhide S6)
          refine leaves_cons (f := 116) (args := #[.pointer (some ⟨g, 0, none⟩)]) (by simp) (by simp [go_sem]) ?_
          refine (leave_p len g _ .returning _ ((unhide S6).set5 hg _ _ _ _ _)).mono ?_
          rintro e u' w7 ⟨rfl, rfl, hs, hw⟩
          exact ⟨_, res_node rfl _ _ w.heap.size 10 0 emptyB 0 _ rfl (hw.row (set5_row (unhide RE) _ _ _ _ _) (by omega)), T6.gr hg hw hs⟩
      · rw [hz] at HEn
        have hstop : stc.stop = true := by unfold PS.stop; rw [hz, Bool.true_or]
        have hF2 : F = (acc, stc) := by rw [(unhide hM).eq, blkLoop, hstop]; rfl
        subst hF2
        have S5 : Hd (St wr g len stc) := (unhide hM).rs.st
        have X5 : Hd (Gr g wr wr) := Gr.refl _ _
        clear hstop hz
        go_wp2_with (first
          | (go_at_call 48; refine Calls.mono (unhide HEn) ?_; rintro e w4 ⟨rfl, hw⟩; obtain rfl := hw.symm)
          | (go_at_call 77; refine Calls.mono (unhide HG _ (unhide S5)) ?_; rintro e w6 ⟨rfl, hs, hw⟩; have X6 := hide ((unhide X5).trans hw); have RE := hide ((unhide X6).row (unhide hM).r2 (by omega)); have RF := hide ((unhide X6).row (unhide hM).r3 (by omega)); have r0 := rowC (unhide RE) 0 rfl; have r1 := rowC (unhide RE) 1 rfl; have r2 := rowC (unhide RE) 2 rfl; have r3 := rowC (unhide RE) 3 rfl; have r4 := rowC (unhide RE) 4 rfl; have rz := rowF (unhide RE); have d0 := rowC (unhide RF) 0 rfl; have d1 := rowC (unhide RF) 1 rfl; have d2 := rowC (unhide RF) 2 rfl; have d3 := rowC (unhide RF) 3 rfl; have d4 := rowC (unhide RF) 4 rfl; have S6 := hide hs; clear hw hs))
        have T6 := (unhide hM).shut hg (unhide X6) (unhide S6)
        refine leaves_cons (f := 116) (args := #[.pointer (some ⟨g, 0, none⟩)]) (by simp) (by simp [go_sem]) ?_
        refine (leave_p len g _ .returning _ ((unhide S6).set5 hg _ _ _ _ _)).mono ?_
        rintro e u' w7 ⟨rfl, rfl, hs, hw⟩
        exact ⟨_, res_node rfl _ _ w.heap.size 10 0 emptyB 0 _ rfl (hw.row (set5_row (unhide RE) _ _ _ _ _) (by omega)), T6.gr hg hw hs⟩

end Go.Proofs.YtlgdjeiendmniaaGreatDoor

namespace Go.Proofs.YtlgdjeiendmniaaGreatDoor
open Go.RowKit

theorem takeW_no (len g : Nat) (st : PS) (s : ByteArray) (W : World) (hb : st.isW s = false) (hS : St W g len st) :
    Calls Tryz.prog 109 #[.pointer (some ⟨g, 0, none⟩), .string s] W fun e w' => e = .returned (.bool false) ∧ St w' g len st ∧ Gr g W w' := by
  have h := takeWord_any len g st s W hS
  unfold PS.takeW at h
  rw [hb] at h
  exact h
theorem takeW_yes (len g : Nat) (st : PS) (s : ByteArray) (W : World) (hb : st.isW s = true) (hS : St W g len st) :
    Calls Tryz.prog 109 #[.pointer (some ⟨g, 0, none⟩), .string s] W fun e w' => e = .returned (.bool true) ∧ St w' g len st.next ∧ Gr g W w' := by
  have h := takeWord_any len g st s W hS
  unfold PS.takeW at h
  rw [hb] at h
  exact h

/-- The end of a function that reads a tree, a block made ahead of the last store. -/
theorem tree_end_alloc {g len : Nat} {w w2 : World} {st' : PS} {k o n : Int} {s : ByteArray} {a : Option Addr} {cap : Nat} {l : List PN} (hg : g < w.heap.size) (hlt : w.heap.size < w2.heap.size) (hs : St w2 g len st') (hw : Gr g w w2) (ob : Obj) (hl : l.length ≤ cap) (hr : RepNL (w2.alloc ob) (fun b => w.heap.size < b ∧ b < (w2.alloc ob).heap.size) l a) :
    Tree g len w (⟨k, o, s, n, l⟩, st') (.returned (nodV k o s n (.slice a l.length cap))) ((set5 w2 w.heap.size k o s n (.slice a l.length cap)).alloc ob) := by
  have hz : ((set5 w2 w.heap.size k o s n (.slice a l.length cap)).alloc ob).heap.size = w2.heap.size + 1 := by rw [size_alloc, set5_size]
  have hz2 : (w2.alloc ob).heap.size = w2.heap.size + 1 := size_alloc _ _
  refine ⟨_, rfl, ?_, (hs.set5 hg _ _ _ _ _).alloc _, (hw.set5 (Nat.le_refl _) _ _ _ _ _).alloc _⟩
  rw [RepN]
  refine ⟨a, cap, rfl, hl, RepNL.to (fun b hb => ⟨⟨by omega, by rw [hz]; have := hb.2; omega⟩, ?_⟩) _ _ hr⟩
  by_cases hb2 : b < w2.heap.size
  · rw [(Ext.alloc _ ob).block b (by rw [set5_size]; exact hb2), set5_block (by omega), (Ext.alloc w2 ob).block b hb2]
  · have e : b = w2.heap.size := by have := hb.2; omega
    subst e
    have h1 := Go.heap_alloc_new (set5 w2 w.heap.size k o s n (.slice a l.length cap)) ob
    rw [set5_size] at h1
    rw [h1, Go.heap_alloc_new w2 ob]

set_option maxHeartbeats 1000000 in
theorem oth_any (len g : Nat) (ch bl : Rdr) (st : PS) (w : World) (hR : Rs w g len st) (hch : st.isW ⟨#[105, 102]⟩ = true → ExIs g len 146 ch st.next w) (hbl : st.isW ⟨#[105, 102]⟩ = false → ExIs g len 79 bl st w) :
    Calls Tryz.prog 158 #[.pointer (some ⟨g, 0, none⟩)] w (Tree g len w (othP ch bl st)) := by
  have hg : g < w.heap.size := hR.st.lt
  unfold othP
  have HR := hide hR
  have X : Hd (Gr g (w.alloc (.cells #[.int .i64 0, .int .i64 0, .string ⟨#[]⟩, .int .i64 0, .slice none 0 0] 60)) (w.alloc (.cells #[.int .i64 0, .int .i64 0, .string ⟨#[]⟩, .int .i64 0, .slice none 0 0] 60))) := Gr.refl _ _
  have SX : Hd (St (w.alloc (.cells #[.int .i64 0, .int .i64 0, .string ⟨#[]⟩, .int .i64 0, .slice none 0 0] 60)) g len st) := hR.st.alloc _
  clear hR
  cases b1 : st.isW ⟨#[105, 102]⟩
  · rw [if_neg (by decide)]
    have HX := hide (hbl b1)
    unfold ExIs at HX
    clear hch hbl
    generalize bl st = q at HX
    obtain ⟨⟨k, o, s, n, l⟩, st3⟩ := q
    go_enter Tryz.func158, Tryz.ntmps158
    go_wp2_with (first
      | (go_at_call 109; refine Calls.mono (takeW_no len g st _ _ (by assumption) (unhide SX)) ?_; rintro e w1 ⟨rfl, hs, hw⟩; replace X := hide ((unhide X).trans hw); replace SX := hide hs; clear hw hs)
      | (go_at_call 79; refine Calls.mono (unhide HX _ ((Gr.of (Ext.alloc w _)).trans (unhide X)) ((unhide HR).go ((Gr.of (Ext.alloc w _)).trans (unhide X)) (unhide SX))) ?_; rintro e w2 ⟨v, rfl, hr, hs, hw⟩; rw [RepN] at hr; obtain ⟨a, cap, rfl, hcap, hl⟩ := hr; have hlt := Nat.lt_of_lt_of_le (Nat.lt_succ_self w.heap.size) (Nat.le_trans (Nat.le_of_eq (size_alloc w _).symm) (unhide X).size); have RD := hide (hw.row ((unhide X).row (Go.heap_alloc_new w _) (by omega)) (by omega)); have r0 := rowC (unhide RD) 0 rfl; have r1 := rowC (unhide RD) 1 rfl; have r2 := rowC (unhide RD) 2 rfl; have r3 := rowC (unhide RD) 3 rfl; have r4 := rowC (unhide RD) 4 rfl; have rz := rowF (unhide RD); have S3 := hide hs; have L3 := hide hl; have X3 := hide (((Gr.of (Ext.alloc w _)).trans (unhide X)).trans hw); clear hw hs hl))
    exact bodyPost_ret (v := nodV k o s n (.slice a l.length cap)) (by simp [results, Tryz.results158, go_sem, r0, r1, r2, r3, r4]) rfl (tree_end hg (unhide S3) (unhide X3) hcap ((unhide L3).gr (Gr.refl g _) (by omega) (by omega)) (k := k) (o := o) (n := n) (s := s))
  · rw [if_pos rfl]
    have HX := hide (hch b1)
    unfold ExIs at HX
    clear hch hbl
    generalize ch st.next = q at HX
    obtain ⟨⟨k, o, s, n, l⟩, st3⟩ := q
    go_enter Tryz.func158, Tryz.ntmps158
    go_wp2_with (first
      | (go_at_call 109; refine Calls.mono (takeW_yes len g st _ _ (by assumption) (unhide SX)) ?_; rintro e w1 ⟨rfl, hs, hw⟩; replace X := hide ((unhide X).trans hw); have SY := hide hs; clear hw hs)
      | (go_at_call 146; refine Calls.mono (unhide HX _ ((Gr.of (Ext.alloc w _)).trans (unhide X)) ((unhide HR).go ((Gr.of (Ext.alloc w _)).trans (unhide X)) (unhide SY))) ?_; rintro e w2 ⟨v, rfl, hr, hs, hw⟩; rw [RepN] at hr; obtain ⟨a, cap, rfl, hcap, hl⟩ := hr; have hlt := Nat.lt_of_lt_of_le (Nat.lt_succ_self w.heap.size) (Nat.le_trans (Nat.le_of_eq (size_alloc w _).symm) (unhide X).size); have RD := hide (hw.row ((unhide X).row (Go.heap_alloc_new w _) (by omega)) (by omega)); have r0 := rowC (unhide RD) 0 rfl; have r1 := rowC (unhide RD) 1 rfl; have r2 := rowC (unhide RD) 2 rfl; have r3 := rowC (unhide RD) 3 rfl; have r4 := rowC (unhide RD) 4 rfl; have rz := rowF (unhide RD); have S3 := hide hs; have L3 := hide hl; have X3 := hide (((Gr.of (Ext.alloc w _)).trans (unhide X)).trans hw); have hlt2 : w.heap.size < w2.heap.size := (Array.getElem?_eq_some_iff.1 (unhide RD)).1; clear hw hs hl))
    have L4 : RepNL (w2.alloc (.cells #[.int .i64 k, .int .i64 o, .string s, .int .i64 n, .slice a l.length cap] 60)) (fun b => w.heap.size < b ∧ b < (w2.alloc (.cells #[.int .i64 k, .int .i64 o, .string s, .int .i64 n, .slice a l.length cap] 60)).heap.size) l a := (unhide L3).gr (Gr.of (g := g) (Ext.alloc _ _)) (by omega) (by omega)
    have T4 := tree_end_alloc (l := [⟨k, o, s, n, l⟩]) hg hlt2 (unhide S3) (unhide X3) _ (Nat.le_refl 1) (one_rep (F := fun b => w.heap.size < b ∧ b < (w2.alloc (.cells #[.int .i64 k, .int .i64 o, .string s, .int .i64 n, .slice a l.length cap] 60)).heap.size) (Go.heap_alloc_new w2 _) ⟨hlt2, by simp⟩ hcap L4) (k := 10) (o := 0) (n := 0) (s := emptyB)
    have e0 := set5_past (unhide RD) 10 0 emptyB 0 (.slice (some ⟨w2.heap.size, 0, none⟩) 1 1) 0 _ rfl
    have e1 := set5_past (unhide RD) 10 0 emptyB 0 (.slice (some ⟨w2.heap.size, 0, none⟩) 1 1) 1 _ rfl
    have e2 := set5_past (unhide RD) 10 0 emptyB 0 (.slice (some ⟨w2.heap.size, 0, none⟩) 1 1) 2 _ rfl
    have e3 := set5_past (unhide RD) 10 0 emptyB 0 (.slice (some ⟨w2.heap.size, 0, none⟩) 1 1) 3 _ rfl
    have e4 := set5_past (unhide RD) 10 0 emptyB 0 (.slice (some ⟨w2.heap.size, 0, none⟩) 1 1) 4 _ rfl
    exact bodyPost_ret (v := nodV 10 0 emptyB 0 (.slice (some ⟨w2.heap.size, 0, none⟩) 1 1)) (by simp [results, Tryz.results158, go_sem, e0, e1, e2, e3, e4]) rfl T4

end Go.Proofs.YtlgdjeiendmniaaGreatDoor
