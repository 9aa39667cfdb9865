/- Indexes behind an expression, from left to right: what holds of the loop. · Indexes behind an expression, from left to right. · Ops of one place, ahead of their operand. -/
import Derived.Test.YtbcflcnkhhkogaaGreatDoorZb7
set_option linter.unusedSimpArgs false
set_option linter.unusedVariables false
set_option maxRecDepth 10000

namespace Go.Proofs.YtbcflcnkhhkogaaGreatDoor
open Go.RowKit

def loopX (sb : Rdr) : Nat → PN → PS → PN × PS
  | 0, n, st => (n, st)
  | f + 1, n, st => match st.oper 7 with
    | none => (n, st)
    | some o => loopX sb f (o.node [n, (sb st).1]) (sb st).2
theorem ix_loopX (len : Nat) (ex : Rdr) : ∀ (f : Nat) (n : PN) (st : PS), ixLoopP len ex f n st = loopX (inBrP len ex ⟨#[93]⟩) f n st
  | 0, n, st => rfl
  | f + 1, n, st => by
    rw [ixLoopP, loopX]
    cases st.oper 7 with
    | none => rfl
    | some o => exact ix_loopX len ex f _ _
theorem loopX_eq (sb : Rdr) (j : Nat) (p : PN) (st : PS) : loopX sb (j + 1) p st = if (st.oper 7).isSome then loopX sb j (((st.oper 7).getD oprZ).node [p, (sb st).1]) (sb st).2 else (p, st) := by
  rw [loopX]
  cases h : st.oper 7 <;> rfl

theorem fail_ts (st : PS) (len : Nat) (c : Int) : (st.fail len c).ts = [] := by unfold PS.fail; split <;> rfl
theorem enter_le (st : PS) (len : Nat) : (st.enter len).ts.length ≤ st.ts.length := by
  unfold PS.enter
  split
  · rw [fail_ts]; exact Nat.zero_le _
  · exact Nat.le_refl _
theorem sign_le (st : PS) (len : Nat) (s : ByteArray) : (st.sign len s).ts.length ≤ st.ts.length := by
  unfold PS.sign
  split
  · simp [PS.next]
  · rw [fail_ts]; exact Nat.zero_le _
theorem inBr_lt {st : PS} {len : Nat} {ex : Rdr} (c : ByteArray) (hsh : ∀ s, (ex s).2.ts.length ≤ s.ts.length) (h : st.ts ≠ []) : (inBrP len ex c st).2.ts.length < st.ts.length := by
  have h1 := enter_le st len
  have h2 := hsh (st.enter len).next
  have h3 := sign_le (ex (st.enter len).next).2 len c
  have h4 : (st.enter len).next.ts.length = (st.enter len).ts.length - 1 := by simp [PS.next]
  have h5 : 0 < st.ts.length := List.length_pos_iff.2 h
  show ((ex (st.enter len).next).2.sign len c).ts.length < _
  omega
theorem oper_some_ne {st : PS} {lv : Int} (h : (st.oper lv).isSome = true) : st.ts ≠ [] := by
  intro e
  obtain ⟨z, hz⟩ := Option.isSome_iff_exists.1 h
  have := oper_ne hz
  rw [e] at this
  simp at this

/-- What holds at the head of a level's loop. -/
structure IxI (sb : Rdr) (g len : Nat) (w wr : World) (R : PN × PS) (b3 b4 : Nat) (bb : Bool) (k o : Int) (s : ByteArray) (n : Int) (l : List PN) (a : Option Addr) (cap : Nat) (z : Opr) (stc : PS) (j : Nat) : Prop where
  eq : R = if bb then loopX sb j (z.node [⟨k, o, s, n, l⟩, (sb stc).1]) (sb stc).2 else (⟨k, o, s, n, l⟩, stc)
  fuel : bb = true → (sb stc).2.ts.length < j
  r2 : wr.heap[w.heap.size]? = some (nodO 0 0 emptyB 0 (.slice none 0 0))
  r3 : wr.heap[b3]? = some (nodO k o s n (.slice a l.length cap))
  r4 : wr.heap[b4]? = some (oprO z)
  hc : l.length ≤ cap
  rep : RepNL wr (fun b => w.heap.size < b ∧ b < wr.heap.size ∧ b ≠ b3 ∧ b ≠ b4) l a
  h3 : w.heap.size < b3
  h34 : b3 < b4
  rs : Rs wr g len stc
  gr : Gr g w wr

/-- What holds of a level's loop when a node was made and no operator is looked for yet. -/
structure IxM (sb : Rdr) (g len : Nat) (w W : World) (R : PN × PS) (b3 : Nat) (k o : Int) (s : ByteArray) (n : Int) (l : List PN) (a : Option Addr) (cap : Nat) (st2 : PS) (j : Nat) : Prop where
  eq : R = loopX sb j ⟨k, o, s, n, l⟩ st2
  fuel : st2.ts.length < j
  r2 : W.heap[w.heap.size]? = some (nodO 0 0 emptyB 0 (.slice none 0 0))
  r3 : W.heap[b3]? = some (nodO k o s n (.slice a l.length cap))
  hc : l.length ≤ cap
  rep : RepNL W (fun b => w.heap.size < b ∧ b < W.heap.size ∧ b ≠ b3) l a
  h3 : w.heap.size < b3
  rs : Rs W g len st2
  gr : Gr g w W

theorem IxM.of {sb : Rdr} {g len : Nat} {w wr w3 w4 : World} {R : PN × PS} {b3 b4 : Nat} {k o : Int} {s : ByteArray} {n : Int} {l : List PN} {a : Option Addr} {cap : Nat} {z : Opr} {st0 stc st2 : PS} {j : Nat} {k2 o2 : Int} {s2 : ByteArray} {n2 : Int} {l2 : List PN} {a2 : Option Addr} {cap2 : Nat} {t : TypeId}
    (hR : Rs w g len st0) (h : IxI sb g len w wr R b3 b4 true k o s n l a cap z stc j) (hq : R = loopX sb j (z.node [⟨k, o, s, n, l⟩, ⟨k2, o2, s2, n2, l2⟩]) st2) (hl : st2.ts.length < j) (X3 : Gr g wr w3) (S3 : St w3 g len st2) (hc2 : l2.length ≤ cap2) (L3 : RepNL w3 (Fr wr.heap.size w3.heap.size) l2 a2) (X4 : Ext w3 w4)
    (RI : w4.heap[w3.heap.size]? = some (.cells #[.int .i64 k, .int .i64 o, .string s, .int .i64 n, .slice a l.length cap, .int .i64 k2, .int .i64 o2, .string s2, .int .i64 n2, .slice a2 l2.length cap2] t (0, 0))) :
    IxM sb g len w (set5 w4 b3 z.k z.o emptyB 0 (.slice (some ⟨w3.heap.size, 0, none⟩) 2 2)) R b3 z.k z.o emptyB 0 [⟨k, o, s, n, l⟩, ⟨k2, o2, s2, n2, l2⟩] (some ⟨w3.heap.size, 0, none⟩) 2 st2 j := by
  have hg : g < w.heap.size := hR.st.lt
  have h3 := h.h3
  have h34 := h.h34
  have hb4 : b4 < wr.heap.size := (Array.getElem?_eq_some_iff.1 h.r4).1
  have hlt : w3.heap.size < w4.heap.size := (Array.getElem?_eq_some_iff.1 RI).1
  have X34 : Gr g wr w4 := X3.trans (Gr.of X4)
  have hsz := X3.size
  have G5 : Gr g w (set5 w4 b3 z.k z.o emptyB 0 (.slice (some ⟨w3.heap.size, 0, none⟩) 2 2)) := (h.gr.trans X34).set5 (by omega) _ _ _ _ _
  have S5 := (S3.ext X4).set5 (b := b3) (by omega) z.k z.o emptyB 0 (.slice (some ⟨w3.heap.size, 0, none⟩) 2 2)
  have Z5 := set5_size w4 b3 z.k z.o emptyB 0 (.slice (some ⟨w3.heap.size, 0, none⟩) 2 2)
  have B5 : ∀ x, x ≠ b3 → (set5 w4 b3 z.k z.o emptyB 0 (.slice (some ⟨w3.heap.size, 0, none⟩) 2 2)).heap[x]? = w4.heap[x]? := fun x hx => set5_block hx _ _ _ _ _
  have R5 := set5_row (X34.row h.r3 (by omega)) z.k z.o emptyB 0 (.slice (some ⟨w3.heap.size, 0, none⟩) 2 2)
  generalize set5 w4 b3 z.k z.o emptyB 0 (.slice (some ⟨w3.heap.size, 0, none⟩) 2 2) = W at *
  have hr2 : W.heap[w.heap.size]? = some (nodO 0 0 emptyB 0 (.slice none 0 0)) := (B5 _ (by omega)).trans (X34.row h.r2 (by omega))
  have hp1 : RepNL W (fun b => w.heap.size < b ∧ b < W.heap.size ∧ b ≠ b3) l a := RepNL.to (fun b hb => ⟨⟨hb.1, by omega, hb.2.2.1⟩, (B5 b hb.2.2.1).trans (X34.block b hb.2.1 (by omega))⟩) _ _ h.rep
  have hp2 : RepNL W (fun b => w.heap.size < b ∧ b < W.heap.size ∧ b ≠ b3) l2 a2 := RepNL.to (fun b hb => by
    have h1 := hb.1
    have h2 := hb.2
    exact ⟨⟨by omega, by omega, by omega⟩, (B5 b (by omega)).trans (X4.block b hb.2)⟩) _ _ L3
  have hpr := pair_rep (F := fun b => w.heap.size < b ∧ b < W.heap.size ∧ b ≠ b3) ((B5 _ (by omega)).trans RI) ⟨by omega, by omega, by omega⟩ h.hc hc2 hp1 hp2
  have hfu := hl
  exact ⟨hq, by omega, hr2, R5, Nat.le_refl _, hpr, h3, hR.go G5 S5, G5⟩

theorem IxM.head {sb : Rdr} {g len : Nat} {w W w6 : World} {R : PN × PS} {b3 : Nat} {k o : Int} {s : ByteArray} {n : Int} {l : List PN} {a : Option Addr} {cap : Nat} {z : Opr} {st0 st2 : PS} {j : Nat}
    (hR : Rs w g len st0) (h : IxM sb g len w W R b3 k o s n l a cap st2 (j + 1)) (hdec : (st2.oper 7).isSome = true → (sb st2).2.ts.length < st2.ts.length) (X6 : Gr g (W.alloc (oprO z)) w6) (S6 : St w6 g len st2) :
    IxI sb g len w (setO w6 W.heap.size ((st2.oper 7).getD oprZ)) R b3 W.heap.size (st2.oper 7).isSome k o s n l a cap ((st2.oper 7).getD oprZ) st2 j := by
  have hg : g < w.heap.size := hR.st.lt
  have h3 := h.h3
  have hb3 : b3 < W.heap.size := (Array.getElem?_eq_some_iff.1 h.r3).1
  have hf := h.fuel
  have hs6 := X6.size
  rw [size_alloc] at hs6
  have hgs := h.gr.size
  have GW : Gr g W w6 := (Gr.of (Ext.alloc _ _)).trans X6
  have G5 := (h.gr.trans GW).setO (b := W.heap.size) hgs ((st2.oper 7).getD oprZ)
  have S5 := S6.setO (b := W.heap.size) (by omega) ((st2.oper 7).getD oprZ)
  have B5 : ∀ x, x ≠ W.heap.size → (setO w6 W.heap.size ((st2.oper 7).getD oprZ)).heap[x]? = w6.heap[x]? := fun x hx => by
    rw [Below.heap_setCell _ _ _ _ hx, Below.heap_setCell _ _ _ _ hx, Below.heap_setCell _ _ _ _ hx, Below.heap_setCell _ _ _ _ hx]
  have Z5 : (setO w6 W.heap.size ((st2.oper 7).getD oprZ)).heap.size = w6.heap.size := by simp [World.setCell]
  have R5 := setO_row (X6.row (Go.heap_alloc_new W _) (by omega)) ((st2.oper 7).getD oprZ)
  have heq := h.eq.trans (loopX_eq _ _ _ _)
  have hlt := hdec
  generalize setO w6 W.heap.size ((st2.oper 7).getD oprZ) = V at *
  refine ⟨heq, fun hb => by have := hlt hb; omega, (B5 _ (by omega)).trans (GW.row h.r2 (by omega)), (B5 _ (by omega)).trans (GW.row h.r3 (by omega)), R5, h.hc, RepNL.to (fun b hb => ?_) _ _ h.rep, h3, hb3, hR.go G5 S5, G5⟩
  have h1 := hb.1
  have h2 := hb.2.1
  exact ⟨⟨h1, by omega, hb.2.2, by omega⟩, (B5 b (by omega)).trans (GW.block b hb.2.1 (by omega))⟩

end Go.Proofs.YtbcflcnkhhkogaaGreatDoor

namespace Go.Proofs.YtbcflcnkhhkogaaGreatDoor
open Go.RowKit

theorem oper_gr (len g : Nat) (st : PS) (lv : Int) (w : World) (hR : Rs w g len st) :
    Calls Tryz.prog 84 #[.pointer (some ⟨g, 0, none⟩), .int .i64 lv] w fun e w' => e = .returned (.tuple #[oprV ((st.oper lv).getD oprZ), .bool (st.oper lv).isSome]) ∧ St w' g len st ∧ Gr g w w' :=
  (oper_any len g st lv w hR.op hR.st).mono fun e w' ⟨he, hw⟩ => ⟨he, hR.st.ext hw, Gr.of hw⟩

set_option maxHeartbeats 8000000 in
theorem idx_any (len g : Nat) (ex : Rdr) (f : Nat) (st : PS) (w : World) (hR : Rs w g len st) (hf : st.ts.length < f) (hsh : ∀ s, (ex s).2.ts.length ≤ s.ts.length)
    (hsg : ∀ W, Gr g w W → Rs W g len st → Calls Tryz.prog 190 #[.pointer (some ⟨g, 0, none⟩)] W (Tree g len W (sglP len ex f st))) (hsl : (sglP len ex f st).2.ts.length ≤ st.ts.length)
    (hbr : ∀ s : PS, s.ts.length ≤ st.ts.length → s.ts ≠ [] → ∀ W, Gr g w W → Rs W g len s → Calls Tryz.prog 191 #[.pointer (some ⟨g, 0, none⟩), .string ⟨#[93]⟩] W (Tree g len W (inBrP len ex ⟨#[93]⟩ s))) :
    Calls Tryz.prog 179 #[.pointer (some ⟨g, 0, none⟩)] w (Tree g len w (idxP len ex f st)) := by
  have hg : g < w.heap.size := hR.st.lt
  unfold idxP
  rw [ix_loopX]
  have HX0 := hide hsg
  have HSH := hide (fun s (h : (s.oper 7).isSome = true) => inBr_lt (st := s) (len := len) (ex := ex) ⟨#[93]⟩ hsh (oper_some_ne h))
  have HX := hide hbr
  have hl0 := hsl
  have HR := hide hR
  clear hR hbr hsh hsg hsl
  generalize inBrP len ex ⟨#[93]⟩ = sb at *
  generalize sglP len ex f st = q at *
  obtain ⟨⟨k, o, s, n, l⟩, st1⟩ := q
  obtain ⟨R, hRR⟩ : ∃ R, R = loopX sb f ⟨k, o, s, n, l⟩ st1 := ⟨_, rfl⟩
  show Calls _ _ _ _ (Tree g len w (loopX sb f ⟨k, o, s, n, l⟩ st1))
  rw [← hRR]
  have HRR := hide hRR
  clear hRR
  have HT := hide (fun W (x : Rs W g len st1) => oper_gr len g st1 7 W x)
  obtain ⟨f, rfl⟩ : ∃ i, f = i + 1 := ⟨f - 1, by omega⟩
  go_enter Tryz.func179, Tryz.ntmps179
  go_wp2_with (first
    | (go_at_call 190; refine Calls.mono (unhide HX0 _ (Gr.of (Ext.alloc _ _)) ((unhide HR).alloc _)) ?_; rintro e w1 ⟨v, rfl, hr, hs, hw⟩; rw [RepN] at hr; obtain ⟨a, cap, rfl, hcap, hl⟩ := hr; have RB := hide (hw.row (Go.heap_alloc_new w _) (by omega)); have S1 := hide hs; have L1 := hide hl; have X1 := hide ((Gr.of (Ext.alloc _ _)).trans hw); have hlt1 : w.heap.size < w1.heap.size := (Array.getElem?_eq_some_iff.1 (unhide RB)).1; clear hw hs hl)
    | (go_at_call 84; refine Calls.mono (unhide HT _ (((unhide HR).go (unhide X1) (unhide S1)).alloc _)) ?_; rintro e w2 ⟨rfl, hs, hw⟩; have RB2 := hide (hw.row ((Ext.alloc _ _).row (unhide RB)) (by omega)); have RC := hide (hw.row (Go.heap_alloc_new w1 _) (by omega)); have S2 := hide hs; have X2 := hide ((Gr.of (Ext.alloc _ _)).trans hw); have hlt2 : w1.heap.size < w2.heap.size := (Array.getElem?_eq_some_iff.1 (unhide RC)).1; clear hw hs))
  have eRR : R = if (st1.oper 7).isSome then loopX sb f (((st1.oper 7).getD oprZ).node [⟨k, o, s, n, l⟩, (sb st1).1]) (sb st1).2 else (⟨k, o, s, n, l⟩, st1) := (unhide HRR).trans (loopX_eq _ _ _ _)
  have hlt0 := unhide HSH st1
  have HBB : ∃ b, b = (st1.oper 7).isSome ∧ Hd (b = true → (st1.oper 7).isSome = true) := ⟨_, rfl, fun h => h⟩
  obtain ⟨bb, hbb, HBB⟩ := HBB
  have HBB2 := hide HBB
  clear HBB
  rw [← hbb] at eRR hlt0
  simp only [← hbb]
  clear hbb
  generalize (st1.oper 7).getD oprZ = z at *
  have LI : Hd (IxI sb g len w (w2.alloc (.cells #[.string z.s, .int .i64 z.lv, .int .i64 z.k, .int .i64 z.o] 78)) R w1.heap.size w2.heap.size bb k o s n l a cap z st1 f) := by
    have G2 : Gr g w w2 := (unhide X1).trans (unhide X2)
    refine ⟨eRR, fun h => by have := hlt0 h; omega, (Ext.alloc _ _).row (unhide RB2), (Ext.alloc _ _).row (unhide RC), Go.heap_alloc_new w2 _, hcap, ?_, hlt1, hlt2, ((unhide HR).go G2 (unhide S2)).alloc _, G2.alloc _⟩
    refine RepNL.to (fun b hb => ⟨⟨?fa, ?fb, ?fc, ?fd⟩, ?fe⟩) _ _ (unhide L1)
    case fa => have := hb.1; rw [size_alloc] at this; omega
    case fb => have := hb.2; rw [size_alloc]; omega
    case fc => have := hb.2; omega
    case fd => have := hb.2; omega
    case fe => rw [(Ext.alloc w2 _).block b (by have := hb.2; omega)]; exact (unhide X2).block b hb.2 (by have := hb.1; rw [size_alloc] at this; omega)
  clear eRR hlt0 HT HRR HX0 RB RB2 RC S1 S2 L1 X1 X2 hcap
  go_loopw [4, 5] (fun t4 t5 wr => ∃ (b4 : Nat) (bb : Bool) (k o : Int) (s : ByteArray) (n : Int) (l : List PN) (a : Option Addr) (cap : Nat) (z : Opr) (stc : PS) (j : Nat), t4 = .pointer (some ⟨b4, 0, none⟩) ∧ t5 = .bool bb ∧ Hd (IxI sb g len w wr R w1.heap.size b4 bb k o s n l a cap z stc j) ∧ stc.ts.length ≤ st.ts.length ∧ Hd (bb = true → (stc.oper 7).isSome = true)) (fun _ t5 wr => 2 * leftN g wr + (match t5 with | .bool true => 1 | _ => 0))
  case atStart => exact ⟨_, bb, _, _, _, _, _, _, _, _, st1, f, rfl, rfl, LI, by omega, unhide HBB2⟩
  case round =>
    clear LI
    obtain ⟨b4, bb, k, o, s, n, l, a, cap, z, stc, j, rfl, rfl, hI, hle, hbx⟩ := hrel
    have hJ := unhide hI
    have p0 := rowC hJ.r3 0 rfl
    have p1 := rowC hJ.r3 1 rfl
    have p2 := rowC hJ.r3 2 rfl
    have p3 := rowC hJ.r3 3 rfl
    have p4 := rowC hJ.r3 4 rfl
    have h3 := hJ.h3
    have h34 := hJ.h34
    cases bb
    · have hRR : R = (⟨k, o, s, n, l⟩, stc) := hJ.eq
      have r0 := rowC hJ.r2 0 rfl
      have r1 := rowC hJ.r2 1 rfl
      have r2 := rowC hJ.r2 2 rfl
      have r3 := rowC hJ.r2 3 rfl
      have r4 := rowC hJ.r2 4 rfl
      have rz := rowF hJ.r2
      clear hJ
      go_wp2
      rw [hRR]
      exact bodyPost_ret (v := nodV k o s n (.slice a l.length cap)) (by simp [results, Tryz.results179, go_sem, r0, r1, r2, r3, r4]) rfl (tree_end hg (unhide hI).rs.st (unhide hI).gr (unhide hI).hc (RepNL.to (fun b hb => ⟨⟨hb.1, hb.2.1⟩, rfl⟩) _ _ (unhide hI).rep) (k := k) (o := o) (n := n) (s := s))
    · have q0 := rowC hJ.r4 0 rfl
      have q1 := rowC hJ.r4 1 rfl
      have q2 := rowC hJ.r4 2 rfl
      have q3 := rowC hJ.r4 3 rfl
      have hRR : R = loopX sb j (z.node [⟨k, o, s, n, l⟩, (sb stc).1]) (sb stc).2 := hJ.eq
      have hfu := hJ.fuel rfl
      have hsome := unhide hbx rfl
      have HXs := hide (unhide HX stc hle (oper_some_ne hsome))
      have hl2 := unhide HSH stc hsome
      have hb4 : b4 < wr.heap.size := (Array.getElem?_eq_some_iff.1 hJ.r4).1
      have HRR := hide hRR
      generalize sb stc = q at HXs HRR hl2 hfu
      obtain ⟨⟨k2, o2, s2, n2, l2⟩, st2⟩ := q
      clear hJ hRR
      have D0 : Hd (Gr g w wr.drew) := (unhide hI).gr.drew
      have D1 : Hd (Rs wr.drew g len stc) := (unhide hI).rs.ext (Ext.drew (Ext.refl _))
      go_wp2_with fail
      go_region_law (first
        | (refine step_call_two rfl 191 (.tmp 21) (.const (.string ⟨#[93]⟩)) 47 9 rfl _ _ (by simp [Act.eval, Act.put]) (by simp [Act.eval, Act.put]) (enterInBr _ _ _) (Calls.mono (unhide HXs _ (unhide D0) (unhide D1)) ?_); rintro e w3 ⟨v, rfl, hr, hs, hw⟩; rw [RepN] at hr; obtain ⟨a2, cap2, rfl, hcap2, hl3⟩ := hr; have RE := hide (hw.row (unhide hI).r3 (by omega)); have RF := hide (hw.row (unhide hI).r4 (by omega)); have p0 := rowC (unhide RE) 0 rfl; have p1 := rowC (unhide RE) 1 rfl; have p2 := rowC (unhide RE) 2 rfl; have p3 := rowC (unhide RE) 3 rfl; have p4 := rowC (unhide RE) 4 rfl; have q0 := rowC (unhide RF) 0 rfl; have q1 := rowC (unhide RF) 1 rfl; have q2 := rowC (unhide RF) 2 rfl; have q3 := rowC (unhide RF) 3 rfl; have S3 := hide hs; have L3 := hide hl3; have X3 := hide hw; have hb43 : b4 < w3.heap.size := Nat.lt_of_lt_of_le hb4 hw.size; clear hw hs hl3; refine ⟨_, rfl, ?_⟩)
        | (refine step_call_two rfl 42 (.tmp 19) (.tmp 23) 78 23 rfl _ _ (by simp [Act.eval, Act.put]) (by simp [Act.eval, Act.put]) (enterNode _ _ _) (Calls.mono (node_any z (some ⟨w3.heap.size, 0, none⟩) 2 2 _) ?_); rintro e w4 ⟨rfl, hw⟩; have RG := hide (hw.row ((Ext.alloc _ _).row (unhide RE))); have RH := hide (hw.row ((Ext.alloc _ _).row (unhide RF))); have RI := hide (hw.row (Go.heap_alloc_new w3 _)); have p0 := rowC (unhide RG) 0 rfl; have p1 := rowC (unhide RG) 1 rfl; have p2 := rowC (unhide RG) 2 rfl; have p3 := rowC (unhide RG) 3 rfl; have p4 := rowC (unhide RG) 4 rfl; have pz := rowF (unhide RG); have q0 := rowC (unhide RH) 0 rfl; have q1 := rowC (unhide RH) 1 rfl; have q2 := rowC (unhide RH) 2 rfl; have q3 := rowC (unhide RH) 3 rfl; have X4 := hide ((Ext.alloc _ _).trans hw); have hb44 : b4 < w4.heap.size := (Array.getElem?_eq_some_iff.1 (unhide RH)).1; clear hw; refine ⟨_, rfl, ?_⟩))
      all_goals
        have LM := IxM.of (unhide HR) (unhide hI) (unhide HRR) hfu (Gr.drew_of (unhide X3)) (unhide S3) hcap2 (unhide L3) (unhide X4) (unhide RI)
        refine gen_world (F := fun W5 => Exit.inBlock 1 (Exit.then _ _) Exit.normal _ W5) ?_
        intro W5 hW5
        replace hW5 : W5 = set5 w4 w1.heap.size z.k z.o emptyB 0 (.slice (some ⟨w3.heap.size, 0, none⟩) 2 2) := hW5
        rw [← hW5] at LM
        have RK : W5.heap[b4]? = some (oprO z) := by rw [hW5, set5_block (by omega)]; exact unhide RH
        have q0 := rowC RK 0 rfl
        have q1 := rowC RK 1 rfl
        have q2 := rowC RK 2 rfl
        have q3 := rowC RK 3 rfl
        have hm0 : leftN g wr = stc.ts.length := left_st (unhide hI).rs.st
        have HT := hide (fun W (x : Rs W g len st2) => oper_gr len g st2 7 W x)
        have hgW : g < W5.heap.size := LM.rs.st.lt
        have hfj := LM.fuel
        obtain ⟨j, rfl⟩ : ∃ i, j = i + 1 := ⟨j - 1, by omega⟩
        have M := hide LM
        have hdec := hide (unhide HSH st2)
        clear LM hW5 RK RE RF RG RH RI S3 L3 X3 X4 hI
        go_wp2_with (go_at_call 84; refine Calls.mono (unhide HT _ ((unhide M).rs.alloc _)) ?_; rintro e w6 ⟨rfl, hs, hw⟩; have LH := hide (IxM.head (z := z) (unhide HR) (unhide M) (unhide hdec) hw hs); have RM := hw.row (Go.heap_alloc_new W5 _) (by omega); have z0 := rowC RM 0 rfl; have z1 := rowC RM 1 rfl; have z2 := rowC RM 2 rfl; have z3 := rowC RM 3 rfl; have zz := rowF RM; clear RM hw hs)
        have hm1 := left_st (unhide LH).rs.st
        have HB2 : ∃ b, b = (st2.oper 7).isSome ∧ Hd (b = true → (st2.oper 7).isSome = true) := ⟨_, rfl, fun h => h⟩
        obtain ⟨bb, hbb, HB2⟩ := HB2
        have HB3 := hide HB2
        clear HB2
        rw [← hbb] at LH
        simp only [← hbb]
        clear hbb
        generalize (st2.oper 7).getD oprZ = y at *
        go_roundw
        case rel => exact ⟨_, bb, _, _, _, _, _, _, _, y, st2, j, rfl, rfl, LH, by omega, unhide HB3⟩
        case measure =>
          rw [hm0, hm1]
          cases bb
          · simp; omega
          · simp; omega

end Go.Proofs.YtbcflcnkhhkogaaGreatDoor

namespace Go.Proofs.YtbcflcnkhhkogaaGreatDoor
open Go.RowKit

/-- One tree in a block of its own. -/
theorem one_rep {W : World} {F : Nat → Prop} {B : Nat} {t : TypeId} {k o n : Int} {s : ByteArray} {l : List PN} {a : Option Addr} {cap : Nat} (hB : W.heap[B]? = some (.cells #[.int .i64 k, .int .i64 o, .string s, .int .i64 n, .slice a l.length cap] t (0, 0)))
    (hF : F B) (h1 : l.length ≤ cap) (r1 : RepNL W F l a) : RepNL W F [⟨k, o, s, n, l⟩] (some ⟨B, 0, none⟩) := by
  rw [RepNL]
  exact ⟨B, 0, _, _, _, _, _, rfl, hF, by rw [RepN]; exact ⟨a, cap, rfl, h1, r1⟩, rowC hB 0 rfl, rowC hB 1 rfl, rowC hB 2 rfl, rowC hB 3 rfl, rowC hB 4 rfl, by simp [RepNL]⟩

set_option maxHeartbeats 8000000 in
theorem sgn_any (len g : Nat) (sg ex : Rdr) (f : Nat) (st : PS) (w : World) (hR : Rs w g len st)
    (hix : st.oper 6 = none → ∀ W, Gr g w W → Rs W g len st → Calls Tryz.prog 179 #[.pointer (some ⟨g, 0, none⟩)] W (Tree g len W (idxP len ex f st)))
    (hsg : (st.oper 6).isSome = true → ExIs g len 163 sg (st.enter len).next w) :
    Calls Tryz.prog 163 #[.pointer (some ⟨g, 0, none⟩)] w (Tree g len w (sgnP len sg ex f st)) := by
  have hg : g < w.heap.size := hR.st.lt
  unfold sgnP
  have HT := hide (fun W (x : Rs W g len st) => oper_gr len g st 6 W x)
  have HR := hide hR
  cases hq : st.oper 6 with
  | none =>
    rw [hq] at HT
    simp only [Option.getD_none, Option.isSome_none] at HT
    have HX := hide (hix hq)
    clear hix hsg hR hq
    show Calls _ _ _ _ (Tree g len w (idxP len ex f st))
    generalize idxP len ex f st = q at HX ⊢
    obtain ⟨⟨k, o, s, n, l⟩, st3⟩ := q
    go_enter_defers Tryz.func163, Tryz.ntmps163
    go_wp2_with (first
      | (go_at_call 84; refine Calls.mono (unhide HT _ ((unhide HR).alloc _)) ?_; rintro e w1 ⟨rfl, hs, hw⟩; have RB := hide (hw.row (Go.heap_alloc_new w _) (by omega)); have S1 := hide hs; have X1 := hide ((Gr.of (Ext.alloc _ _)).trans hw); have hlt1 : w.heap.size < w1.heap.size := (Array.getElem?_eq_some_iff.1 (unhide RB)).1; clear hw hs)
      | (go_at_call 179; refine Calls.mono (unhide HX _ ((unhide X1).alloc _) (((unhide HR).go (unhide X1) (unhide S1)).alloc _)) ?_; rintro e w3 ⟨v, rfl, hr, hs, hw⟩; rw [RepN] at hr; obtain ⟨a, cap, rfl, hcap, hl⟩ := hr; have RD := hide (hw.row ((Ext.alloc _ _).row (unhide RB)) (by omega)); have r0 := rowC (unhide RD) 0 rfl; have r1 := rowC (unhide RD) 1 rfl; have r2 := rowC (unhide RD) 2 rfl; have r3 := rowC (unhide RD) 3 rfl; have r4 := rowC (unhide RD) 4 rfl; have rz := rowF (unhide RD); have S3 := hide hs; have L3 := hide hl; have X3 := hide (((unhide X1).alloc _).trans hw); clear hw hs hl))
    exact ⟨_, res_node rfl _ _ w.heap.size k o s n _ rfl (set5_row (unhide RD) _ _ _ _ _), tree_end hg (unhide S3) (unhide X3) hcap ((unhide L3).gr (Gr.refl g _) (by simp; omega) (by simp; omega)) (k := k) (o := o) (n := n) (s := s)⟩
  | some z =>
    rw [hq] at HT
    simp only [Option.getD_some, Option.isSome_some] at HT
    have HX := hide (hsg (by rw [hq]; rfl))
    unfold ExIs at HX
    clear hix hsg hR hq
    show Calls _ _ _ _ (Tree g len w (z.node [(sg (st.enter len).next).1], (sg (st.enter len).next).2.leave))
    generalize sg (st.enter len).next = q at HX ⊢
    obtain ⟨⟨k, o, s, n, l⟩, st3⟩ := q
    have HE := hide (fun W (x : St W g len st) => enter_p len g st W x)
    have HN := hide (fun W (x : St W g len (st.enter len)) => next_any len g (st.enter len) W x)
    go_enter_defers Tryz.func163, Tryz.ntmps163
    go_wp2_with (first
      | (go_at_call 84; refine Calls.mono (unhide HT _ ((unhide HR).alloc _)) ?_; rintro e w1 ⟨rfl, hs, hw⟩; have RB := hide (hw.row (Go.heap_alloc_new w _) (by omega)); have S1 := hide hs; have X1 := hide ((Gr.of (Ext.alloc _ _)).trans hw); have hlt1 : w.heap.size < w1.heap.size := (Array.getElem?_eq_some_iff.1 (unhide RB)).1; clear hw hs)
      | (go_at_call 122; refine Calls.mono (unhide HE _ ((unhide S1).alloc _)) ?_; rintro e w2 ⟨rfl, hs, hw⟩; have RC := hide (hw.row ((Ext.alloc _ _).row (unhide RB)) (by omega)); have RO := hide (hw.row (Go.heap_alloc_new w1 _) (by omega)); have S2 := hide hs; have X2 := hide (((unhide X1).alloc _).trans hw); clear hw hs)
      | (go_at_call 85; refine Calls.mono (unhide HN _ (unhide S2)) ?_; rintro e w3 ⟨rfl, hs, hw⟩; have RD := hide (hw.row (unhide RC) (by omega)); have RP := hide (hw.row (unhide RO) (by omega)); have q0 := rowC (unhide RP) 0 rfl; have q1 := rowC (unhide RP) 1 rfl; have q2 := rowC (unhide RP) 2 rfl; have q3 := rowC (unhide RP) 3 rfl; have S3 := hide hs; have X3 := hide ((unhide X2).trans hw); have hlt3 : w1.heap.size < w3.heap.size := (Array.getElem?_eq_some_iff.1 (unhide RP)).1; clear hw hs))
    have D0 : Hd (Gr g w w3.drew) := (unhide X3).drew
    have D1 : Hd (Rs w3.drew g len (st.enter len).next) := ((unhide HR).go (unhide X3) (unhide S3)).ext (Ext.drew (Ext.refl _))
    first | skip; go_region_law (first
      | (refine step_call_one rfl 163 (.tmp 20) 47 rfl _ (by simp [Act.eval, Act.put]) (enterSigned _ _) (Calls.mono (unhide HX _ (unhide D0) (unhide D1)) ?_); rintro e w4 ⟨v, rfl, hr, hs, hw⟩; rw [RepN] at hr; obtain ⟨a, cap, rfl, hcap, hl⟩ := hr; have RE := hide (hw.row (unhide RD) (by omega)); have RQ := hide (hw.row (unhide RP) (by omega)); have q0 := rowC (unhide RQ) 0 rfl; have q1 := rowC (unhide RQ) 1 rfl; have q2 := rowC (unhide RQ) 2 rfl; have q3 := rowC (unhide RQ) 3 rfl; have r0 := rowC (unhide RE) 0 rfl; have r1 := rowC (unhide RE) 1 rfl; have r2 := rowC (unhide RE) 2 rfl; have r3 := rowC (unhide RE) 3 rfl; have r4 := rowC (unhide RE) 4 rfl; have S4 := hide hs; have L4 := hide hl; have X4 := hide hw; have hb14 : w1.heap.size < w4.heap.size := Nat.lt_of_lt_of_le hlt3 hw.size; have hb04 : w.heap.size < w4.heap.size := Nat.lt_trans hlt1 hb14; clear hw hs hl; refine ⟨_, rfl, ?_⟩)
      | (refine step_call_two rfl 42 (.tmp 19) (.tmp 22) 78 23 rfl _ _ (by simp [Act.eval, Act.put]) (by simp [Act.eval, Act.put]) (enterNode _ _ _) (Calls.mono (node_any z (some ⟨w4.heap.size, 0, none⟩) 1 1 _) ?_); rintro e w5 ⟨rfl, hw⟩; have RG := hide (hw.row ((Ext.alloc _ _).row (unhide RE))); have RI := hide (hw.row (Go.heap_alloc_new w4 _)); have r0 := rowC (unhide RG) 0 rfl; have r1 := rowC (unhide RG) 1 rfl; have r2 := rowC (unhide RG) 2 rfl; have r3 := rowC (unhide RG) 3 rfl; have r4 := rowC (unhide RG) 4 rfl; have rz := rowF (unhide RG); have X5 := hide ((Ext.alloc _ _).trans hw); have hb15 : w1.heap.size < w5.heap.size := Nat.lt_of_lt_of_le hb14 (unhide X5).size; clear hw; refine ⟨_, rfl, ?_⟩)) | fail
    all_goals
      have G5 : Gr g w w5 := ((unhide D0).trans (unhide X4)).trans (Gr.of (unhide X5))
      have hsz := (unhide X4).size
      have hlt5 : w4.heap.size < w5.heap.size := (Array.getElem?_eq_some_iff.1 (unhide RI)).1
      have L5 : RepNL w5 (fun b => w.heap.size < b ∧ b < w5.heap.size) l a := RepNL.to (fun b hb => ⟨⟨by have h1 : w3.heap.size ≤ b := hb.1; omega, Nat.lt_of_lt_of_le hb.2 (unhide X5).size⟩, (unhide X5).block b hb.2⟩) _ _ (unhide L4)
      have T5 := tree_end (l := [⟨k, o, s, n, l⟩]) hg ((unhide S4).ext (unhide X5)) G5 (Nat.le_refl 1) (one_rep (F := fun b => w.heap.size < b ∧ b < w5.heap.size) (unhide RI) ⟨by have h1 : w3.heap.size ≤ w4.heap.size := hsz; omega, hlt5⟩ hcap L5) (k := z.k) (o := z.o) (n := 0) (s := emptyB)
      go_wp2_with fail
      refine leaves_cons (f := 123) (args := #[.pointer (some ⟨g, 0, none⟩)]) (by simp) (by simp [go_sem]) ?_
      refine (leave_p len g _ .returning _ (((unhide S4).ext (unhide X5)).set5 hg _ _ _ _ _)).mono ?_
      rintro e u' w6 ⟨rfl, rfl, hs, hw⟩
      exact ⟨_, res_node rfl _ _ w.heap.size z.k z.o emptyB 0 _ rfl (hw.row (set5_row (unhide RG) _ _ _ _ _) (by omega)), T5.gr hg hw hs⟩

end Go.Proofs.YtbcflcnkhhkogaaGreatDoor
