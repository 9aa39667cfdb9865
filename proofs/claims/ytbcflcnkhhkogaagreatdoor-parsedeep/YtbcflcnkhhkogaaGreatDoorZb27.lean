/- Functions. -/
import Derived.Test.YtbcflcnkhhkogaaGreatDoorZb26
set_option linter.unusedSimpArgs false
set_option linter.unusedVariables false
set_option maxRecDepth 10000

namespace Go.Proofs.YtbcflcnkhhkogaaGreatDoor
open Go.RowKit

/-- The cells of a function, its slices as given. -/
abbrev fnC (p : PFn) (pa : Option Addr) (pc : Nat) (a : Option Addr) (cap : Nat) : List Value := [.string p.nm, .slice pa p.ps.length pc, .int .i64 p.bd.k, .int .i64 p.bd.o, .string p.bd.s, .int .i64 p.bd.n, .slice a p.bd.l.length cap]

/-- The cells xs hold the functions ps, one behind the other. -/
def RowF (w : World) (F : Nat → Prop) : List PFn → List Value → Prop
  | [], xs => xs = []
  | p :: ps, xs => ∃ pa pc a cap rest, xs = fnC p pa pc a cap ++ rest ∧ p.ps.length ≤ pc ∧ RepS w F p.ps pa ∧ p.bd.l.length ≤ cap ∧ RepNL w F p.bd.l a ∧ RowF w F ps rest

theorem RowF.to {w w' : World} {F F' : Nat → Prop} (h : ∀ b, F b → F' b ∧ w'.heap[b]? = w.heap[b]?) : ∀ {ps : List PFn} {xs : List Value}, RowF w F ps xs → RowF w' F' ps xs := by
  intro ps
  induction ps with
  | nil => intro xs hx; exact hx
  | cons p ps ih =>
    intro xs hx
    obtain ⟨pa, pc, a, cap, rest, e, hp, hs, hb, hl, hr⟩ := hx
    exact ⟨pa, pc, a, cap, rest, e, hp, hs.to h, hb, RepNL.to h _ _ hl, ih hr⟩

theorem RowF.snoc {w : World} {F : Nat → Prop} {p : PFn} {pa : Option Addr} {pc : Nat} {a : Option Addr} {cap : Nat} (hp : p.ps.length ≤ pc) (hs : RepS w F p.ps pa) (hb : p.bd.l.length ≤ cap) (hl : RepNL w F p.bd.l a) :
    ∀ {ps : List PFn} {xs : List Value}, RowF w F ps xs → RowF w F (ps ++ [p]) (xs ++ fnC p pa pc a cap) := by
  intro ps
  induction ps with
  | nil =>
    intro xs hx
    have : xs = [] := hx
    subst this
    exact ⟨pa, pc, a, cap, [], by simp, hp, hs, hb, hl, rfl⟩
  | cons q ps ih =>
    intro xs hx
    obtain ⟨pa', pc', a', cap', rest, e, hp', hs', hb', hl', hr⟩ := hx
    exact ⟨pa', pc', a', cap', rest ++ _, by rw [e]; simp, hp', hs', hb', hl', ih hr⟩

/-- A row of functions at an address. -/
def RepFL (w : World) (F : Nat → Prop) (ps : List PFn) (a : Option Addr) : Prop :=
  ps = [] ∨ ∃ b off xs, a = some ⟨b, off, none⟩ ∧ F b ∧ RowF w F ps xs ∧ ∀ j u, xs[j]? = some u → w.cell? ⟨b, off + j, none⟩ = some u
theorem RepFL.to {w w' : World} {F F' : Nat → Prop} (h : ∀ b, F b → F' b ∧ w'.heap[b]? = w.heap[b]?) {ps : List PFn} {a : Option Addr} (hr : RepFL w F ps a) : RepFL w' F' ps a := by
  rcases hr with hr | ⟨b, off, xs, rfl, hb, hx, hc⟩
  · exact Or.inl hr
  · exact Or.inr ⟨b, off, xs, rfl, (h b hb).1, hx.to h, fun j u hu => by rw [World.cell?_of_block (w := w) (h b hb).2]; exact hc j u hu⟩

theorem infoF : (Tryz.prog.info? 45).map (fun i => (i.zero, i.size, i.bytes)) = some (some (funV emptyB none 0 0 0 0 emptyB 0 none 0 0), 7, 104) := by kernel_rfl

/-- What holds at the head of the loop. -/
structure FunI (g len : Nat) (bl : Rdr) (f : Nat) (w wr : World) (R : List PFn × PS) (stc : PS) (k : Nat) (acc : List PFn) (ao : Option Addr) (cap : Nat) : Prop where
  eq : R = funsP len bl f k acc stc
  fuel : stc.ts.length < k
  bnd : acc.length + stc.ts.length ≤ 100001
  rs : Rs wr g len stc
  gr : Gr g w wr
  own : ∃ xs, wr.ownsRow w.heap.size 45 7 (.slice ao acc.length cap) acc.length xs ∧ RowF wr (fun b => w.heap.size ≤ b ∧ b < wr.heap.size ∧ some b ≠ (Value.slice ao acc.length cap).ownBlock) acc xs

theorem heldF_on {x base : Nat} {wr w2 : World} {acc : List PFn} {v : Value} {n : Nat} {xs : List Value} (hx : wr.ownsRow base 45 7 v n xs ∧ RowF wr (fun b => base ≤ b ∧ b < wr.heap.size ∧ some b ≠ v.ownBlock) acc xs) (k : Gr x wr w2) (hb : x < base) :
    w2.ownsRow base 45 7 v n xs ∧ RowF w2 (fun b => base ≤ b ∧ b < w2.heap.size ∧ some b ≠ v.ownBlock) acc xs :=
  ⟨own_gr hx.1 k hb, RowF.to (fun b hb => ⟨⟨hb.1, Nat.lt_of_lt_of_le hb.2.1 k.size, hb.2.2⟩, k.block b hb.2.1 (by have := hb.1; omega)⟩) hx.2⟩

theorem own_F {wr : World} {base : Nat} {acc : List PFn} {ao : Option Addr} {cap : Nat} (h : ∃ xs, wr.ownsRow base 45 7 (.slice ao acc.length cap) acc.length xs ∧ RowF wr (fun b => base ≤ b ∧ b < wr.heap.size ∧ some b ≠ (Value.slice ao acc.length cap).ownBlock) acc xs) : acc.length ≤ cap ∧ RepFL wr (Fr base wr.heap.size) acc ao := by
  obtain ⟨xs, ho, hr⟩ := h
  obtain ⟨hlen, ⟨e, h0⟩ | ⟨b, cap2, cur, e, hb, hrow, hc, _⟩⟩ := id ho
  · have : acc = [] := List.length_eq_zero_iff.1 h0
    subst this
    exact ⟨Nat.zero_le _, Or.inl rfl⟩
  · injection e with e1 e2 e3
    subst e1 e3
    exact ⟨hc, Or.inr ⟨b, 0, xs, rfl, ⟨hb, (Array.getElem?_eq_some_iff.1 hrow).1⟩, RowF.to (fun x hx => ⟨⟨hx.1, hx.2.1⟩, rfl⟩) hr, cells_own ho⟩⟩

theorem one_fun (nm : ByteArray) (pa : Option Addr) (pn pc : Nat) (k o : Int) (s : ByteArray) (n : Int) (a : Option Addr) (ln cap : Nat) : ∀ u ∈ ([.string nm, .slice pa pn pc, .int .i64 k, .int .i64 o, .string s, .int .i64 n, .slice a ln cap] : List Value), u.oneCell' = true := by
  intro u hu
  simp at hu
  rcases hu with rfl | rfl | rfl | rfl | rfl | rfl | rfl <;> rfl

theorem FunI.snoc {g len : Nat} {bl : Rdr} {f : Nat} {w wr w2 w3 : World} {R : List PFn × PS} {st0 stc st2 : PS} {j : Nat} {acc : List PFn} {ao : Option Addr} {cap g' cap' : Nat} {nm : ByteArray} {ps : List ByteArray} {pa : Option Addr} {pc : Nat} {k o n : Int} {s : ByteArray} {l : List PN} {a : Option Addr} {c : Nat} {xs : List Value} (ob : Obj)
    (hR : Rs w g len st0) (h : FunI g len bl f w wr R stc (j + 1) acc ao cap) (hq : R = funsP len bl f j (acc ++ [⟨nm, ps, ⟨k, o, s, n, l⟩⟩]) st2) (hl : st2.ts.length < stc.ts.length) (hW : Gr g wr w2) (hS : St w2 g len st2) (hpc : ps.length ≤ pc) (hps : RepS w2 (Fr wr.heap.size w2.heap.size) ps pa) (hc : l.length ≤ c) (hll : RepNL w2 (Fr wr.heap.size w2.heap.size) l a)
    (hx : (w2.alloc ob).ownsRow w.heap.size 45 7 (.slice ao acc.length cap) acc.length xs ∧ RowF (w2.alloc ob) (fun b => w.heap.size ≤ b ∧ b < (w2.alloc ob).heap.size ∧ some b ≠ (Value.slice ao acc.length cap).ownBlock) acc xs)
    (ho : w3.ownsRow w.heap.size 45 7 (.slice (some ⟨g', 0, none⟩) (acc.length + 1) cap') (acc.length + 1) (xs ++ [.string nm, .slice pa ps.length pc, .int .i64 k, .int .i64 o, .string s, .int .i64 n, .slice a l.length c]))
    (hgw : (w2.alloc ob).grownBy w3 (Value.slice ao acc.length cap).ownBlock) (hw : (Value.slice ao acc.length cap).ownBlock = some g' ∨ (w2.alloc ob).heap.size ≤ g') :
    FunI g len bl f w w3 R st2 j (acc ++ [⟨nm, ps, ⟨k, o, s, n, l⟩⟩]) (some ⟨g', 0, none⟩) cap' := by
  have hg : g < w.heap.size := hR.st.lt
  have hz : (w2.alloc ob).heap.size = w2.heap.size + 1 := size_alloc _ _
  have hln : (acc ++ [(⟨nm, ps, ⟨k, o, s, n, l⟩⟩ : PFn)]).length = acc.length + 1 := by simp
  have G3 : Gr g w w3 := Gr.append ((h.gr.trans hW).alloc ob) hx.1 (Nat.le_refl _) hgw
  have S3 : St w3 g len st2 := (hS.alloc ob).append hg hx.1 hgw
  have hsz := h.gr.size
  have hF : ∀ b, (w.heap.size ≤ b ∧ b < (w2.alloc ob).heap.size ∧ some b ≠ (Value.slice ao acc.length cap).ownBlock) →
      (w.heap.size ≤ b ∧ b < w3.heap.size ∧ some b ≠ (Value.slice (some ⟨g', 0, none⟩) (acc ++ [(⟨nm, ps, ⟨k, o, s, n, l⟩⟩ : PFn)]).length cap').ownBlock) ∧ w3.heap[b]? = (w2.alloc ob).heap[b]? := by
    intro b hb
    refine ⟨⟨hb.1, Nat.lt_of_lt_of_le hb.2.1 hgw.size, ?_⟩, hgw.block b hb.2.1 hb.2.2⟩
    intro e
    simp only [Value.ownBlock, Option.some.injEq] at e
    rcases hw with e2 | e2
    · exact hb.2.2 (by rw [e2, e])
    · have := hb.2.1; omega
  have hE : ∀ b, Fr wr.heap.size w2.heap.size b → (w.heap.size ≤ b ∧ b < (w2.alloc ob).heap.size ∧ some b ≠ (Value.slice ao acc.length cap).ownBlock) ∧ (w2.alloc ob).heap[b]? = w2.heap[b]? := by
    intro b hb
    obtain ⟨ys, hy, _⟩ := h.own
    exact ⟨⟨by have := hb.1; omega, by have := hb.2; omega, fun e => by have := (hy.lt b e.symm).2; have := hb.1; omega⟩, (Ext.alloc w2 ob).block b hb.2⟩
  exact ⟨hq, by have := h.fuel; omega, by rw [hln]; have := h.bnd; omega, hR.go G3 S3, G3, _, by rw [hln]; exact ho, RowF.snoc (p := ⟨nm, ps, ⟨k, o, s, n, l⟩⟩) hpc ((hps.to hE).to hF) hc (RepNL.to hF _ _ (RepNL.to hE _ _ hll)) (RowF.to hF hx.2)⟩

/-- What a call that reads functions answers. -/
def FunsAre (g len : Nat) (w : World) (r : List PFn × PS) (e : Ending) (w' : World) : Prop :=
  ∃ a cap, e = .returned (.slice a r.1.length cap) ∧ r.1.length ≤ cap ∧ RepFL w' (Fr w.heap.size w'.heap.size) r.1 a ∧ St w' g len r.2 ∧ Gr g w w'

set_option maxHeartbeats 1000000 in
theorem funs_any (len g : Nat) (bl : Rdr) (f : Nat) (st : PS) (w : World) (hR : Rs w g len st) (hf : st.ts.length < f) (hf2 : f ≤ 100000) (hsh : Shorter bl) (hbl : ∀ s : PS, s.ts.length ≤ st.ts.length → ExIs g len 91 bl s w) :
    Calls Tryz.prog 24 #[.pointer (some ⟨g, 0, none⟩)] w (FunsAre g len w (funsP len bl f f [] st)) := by
  have hg : g < w.heap.size := hR.st.lt
  obtain ⟨R, hRR⟩ : ∃ R, R = funsP len bl f f [] st := ⟨_, rfl⟩
  rw [← hRR]
  have HR := hide hR
  have HB := hide hbl
  have HSH := hide hsh
  have MI : Hd (FunI g len bl f w w R st f [] none 0) := ⟨hRR, hf, by simp; omega, hR, Gr.refl _ _, [], World.ownsRow_nil _ _ _ _, rfl⟩
  clear hR hbl hsh hRR
  obtain ⟨i0, hi, hz0, hz1, hz2⟩ := info_parts infoF
  have HI := hide hi
  have Z0 := hide hz0
  have Z1 := hide hz1
  have Z2 := hide hz2
  clear hi hz0 hz1 hz2
  go_enter Tryz.func24, Tryz.ntmps24
  go_wp2_with fail
  go_loopw [2] (fun t wr => ∃ (acc : List PFn) (ao : Option Addr) (cap : Nat) (stc : PS) (j : Nat), t = .slice ao acc.length cap ∧ Hd (FunI g len bl f w wr R stc j acc ao cap) ∧ stc.ts.length ≤ st.ts.length) (fun _ wr => leftN g wr)
  case atStart => exact ⟨[], none, 0, st, f, rfl, MI, Nat.le_refl _⟩
  case round =>
    clear MI
    obtain ⟨acc, ao, cap, stc, j, rfl, hM, hle⟩ := hrel
    have HEn := hide (ended_any len g stc wr (unhide hM).rs.st)
    have hfu := (unhide hM).fuel
    obtain ⟨j, rfl⟩ : ∃ i, j = i + 1 := ⟨j - 1, by omega⟩
    cases hz : ((stc.ts.length : Int) == 0)
    · rw [hz] at HEn
      have hne : stc.ts ≠ [] := fun e => by rw [e] at hz; simp at hz
      have hR2 : R = funsP len bl f j (acc ++ [(funP len bl f stc).1]) (funP len bl f stc).2 := by rw [(unhide hM).eq, funsP, hz]; rfl
      have HR2 := hide hR2
      have hlB := funB_lt (len := len) (f := f) hne
      have HX := hide (fun_any len g bl f stc wr (unhide hM).rs (by omega) hf2 (fun W x h => unhide HB (funB len f stc).2 (by omega) W ((unhide hM).gr.trans x) h))
      have hl1 := fun_lt (len := len) (f := f) (unhide HSH) hne
      have hm0 : leftN g wr = stc.ts.length := left_st (unhide hM).rs.st
      have hbd := (unhide hM).bnd
      clear hR2 hz hne hlB
      generalize funP len bl f stc = q at *
      obtain ⟨⟨nm, ps, ⟨k, o, s, n, l⟩⟩, st4⟩ := q
      obtain ⟨xs, hx⟩ := (unhide hM).own
      have HXS := hide (fun w2 (x : Gr g wr w2) => heldF_on hx x hg)
      clear hx
      generalize hA : acc.length = A at *
      go_wp2_with (first
        | (go_at_call 43; refine Calls.mono (unhide HEn) ?_; rintro e w4 ⟨rfl, hw⟩; obtain rfl := hw.symm)
        | (go_at_call 45; refine Calls.mono (unhide HX) ?_; rintro e w5 ⟨v, rfl, ⟨pa, pc, a, c, rfl, hpc, hps, hcap, hll⟩, hs, hw⟩; have S5 := hide hs; have X5 := hide hw; have P5 := hide hps; have L5 := hide hll; clear hw hs hps hll)
        | (at_builtin; refine wpList_append_where rfl (.tmp 6) (.tmp 9) 31 rfl w.heap.size 45 i0 (funV emptyB none 0 0 0 0 emptyB 0 none 0 0) 7 104 Tryz.underlying31 (unhide HI) (unhide Z0) (unhide Z1) (unhide Z2) rfl (by decide) ao A cap xs rfl (unhide HXS _ ((unhide X5).alloc _)).1 ⟨w5.heap.size, 0, none⟩ 1 1 [.string nm, .slice pa ps.length pc, .int .i64 k, .int .i64 o, .string s, .int .i64 n, .slice a l.length c] rfl (by decide) rfl (cells_new w5 _ _) (one_fun _ _ _ _ _ _ _ _ _ _ _) ?c1 ?c2 ?c3 ?_))
      case c1 => unfold maxLen; omega
      case c2 => omega
      case c3 => have := (unhide hM).gr.size; have := (unhide X5).size; simp; omega
      intro g2 cap6 w6 ho6 hg6 hw6
      subst hA
      have MN : Hd (FunI g len bl f w w6 R st4 j (acc ++ [⟨nm, ps, ⟨k, o, s, n, l⟩⟩]) (some ⟨g2, 0, none⟩) cap6) := FunI.snoc _ (unhide HR) (unhide hM) (unhide HR2) hl1 (unhide X5) (unhide S5) hpc (unhide P5) hcap (unhide L5) (unhide HXS _ ((unhide X5).alloc _)) ho6 hg6 (by rw [size_alloc]; exact hw6)
      have hm1 : leftN g w6 = st4.ts.length := left_st (unhide MN).rs.st
      have hln : (acc ++ [(⟨nm, ps, ⟨k, o, s, n, l⟩⟩ : PFn)]).length = acc.length + 1 := by simp
      have hl1 : st4.ts.length < stc.ts.length := hl1
      clear ho6 hg6 hw6
      go_wp2_with fail
      go_roundw
      case rel => exact ⟨_, _, _, st4, j, by rw [hln], MN, by omega⟩
      case measure => rw [hm0, hm1]; omega
    · rw [hz] at HEn
      have hR2 : R = (acc, stc) := by rw [(unhide hM).eq, funsP, hz]; rfl
      subst hR2
      clear hz
      go_wp2_with (go_at_call 43; refine Calls.mono (unhide HEn) ?_; rintro e w4 ⟨rfl, hw⟩; obtain rfl := hw.symm)
      go_ret
      obtain ⟨d1, d2⟩ := own_F (unhide hM).own
      exact ⟨ao, cap, rfl, d1, d2, (unhide hM).rs.st, (unhide hM).gr⟩

end Go.Proofs.YtbcflcnkhhkogaaGreatDoor
