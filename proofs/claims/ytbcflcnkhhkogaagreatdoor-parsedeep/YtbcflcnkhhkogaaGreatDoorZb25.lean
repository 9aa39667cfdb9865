/- The names of a function's parameters. -/
import Derived.Test.YtbcflcnkhhkogaaGreatDoorZb24
set_option linter.unusedSimpArgs false
set_option linter.unusedVariables false
set_option maxRecDepth 10000

namespace Go.Proofs.YtbcflcnkhhkogaaGreatDoor
open Go.RowKit

/-- A row of texts. -/
def RepS (w : World) (F : Nat → Prop) (ps : List ByteArray) (a : Option Addr) : Prop :=
  ps = [] ∨ ∃ b off, a = some ⟨b, off, none⟩ ∧ F b ∧ ∀ j u, (ps.map Value.string)[j]? = some u → w.cell? ⟨b, off + j, none⟩ = some u

theorem RepS.to {w w' : World} {F F' : Nat → Prop} (h : ∀ b, F b → F' b ∧ w'.heap[b]? = w.heap[b]?) {ps : List ByteArray} {a : Option Addr} (hr : RepS w F ps a) : RepS w' F' ps a := by
  rcases hr with hr | ⟨b, off, rfl, hb, hc⟩
  · exact Or.inl hr
  · exact Or.inr ⟨b, off, rfl, (h b hb).1, fun j u hu => by rw [World.cell?_of_block (w := w) (h b hb).2]; exact hc j u hu⟩

/-- What a call that reads names answers. -/
def Names (g len : Nat) (w : World) (r : List ByteArray × PS) (e : Ending) (w' : World) : Prop :=
  ∃ a cap, e = .returned (.slice a r.1.length cap) ∧ r.1.length ≤ cap ∧ RepS w' (Fr w.heap.size w'.heap.size) r.1 a ∧ St w' g len r.2 ∧ Gr g w w'

theorem infoS : (Tryz.prog.info? 9).map (fun i => (i.zero, i.size, i.bytes)) = some (some (.string emptyB), 1, 16) := by kernel_rfl

/-- What holds at the head of the loop. -/
structure ParI (g len : Nat) (w wr : World) (F : List ByteArray × PS) (stc : PS) (k : Nat) (acc : List ByteArray) (ao : Option Addr) (cap : Nat) : Prop where
  eq : F = parLoop len k acc stc
  fuel : stc.ts.length < k
  bnd : acc.length + stc.ts.length ≤ 100001
  st : St wr g len stc
  gr : Gr g w wr
  own : wr.ownsRow w.heap.size 9 1 (.slice ao acc.length cap) acc.length (acc.map Value.string)

theorem own_S {wr : World} {base : Nat} {acc : List ByteArray} {ao : Option Addr} {cap : Nat} (ho : wr.ownsRow base 9 1 (.slice ao acc.length cap) acc.length (acc.map Value.string)) : acc.length ≤ cap ∧ RepS wr (Fr base wr.heap.size) acc ao := by
  obtain ⟨hlen, ⟨e, h0⟩ | ⟨b, cap2, cur, e, hb, hrow, hc, _⟩⟩ := id ho
  · have : acc = [] := List.length_eq_zero_iff.1 h0
    subst this
    exact ⟨Nat.zero_le _, Or.inl rfl⟩
  · injection e with e1 e2 e3
    subst e1 e3
    exact ⟨hc, Or.inr ⟨b, 0, rfl, ⟨hb, (Array.getElem?_eq_some_iff.1 hrow).1⟩, cells_own ho⟩⟩

theorem one_str (s : ByteArray) : ∀ u ∈ ([.string s] : List Value), u.oneCell' = true := by
  intro u hu
  simp at hu
  subst hu
  rfl

theorem ParI.snoc {g len : Nat} {w wr w2 w3 : World} {F : List ByteArray × PS} {st2 : PS} {k : Nat} {acc : List ByteArray} {ao : Option Addr} {cap g' cap' : Nat} {nm : ByteArray} (ob : Obj)
    (hg : g < w.heap.size) (hgr : Gr g w wr) (hW : Gr g wr w2) (hS : St w2 g len st2) (hq : F = parLoop len k (acc ++ [nm]) st2) (hf : st2.ts.length < k) (hb : acc.length + st2.ts.length ≤ 100000)
    (hx : (w2.alloc ob).ownsRow w.heap.size 9 1 (.slice ao acc.length cap) acc.length (acc.map Value.string))
    (ho : w3.ownsRow w.heap.size 9 1 (.slice (some ⟨g', 0, none⟩) (acc.length + 1) cap') (acc.length + 1) (acc.map Value.string ++ [.string nm]))
    (hgw : (w2.alloc ob).grownBy w3 (Value.slice ao acc.length cap).ownBlock) : ParI g len w w3 F st2 k (acc ++ [nm]) (some ⟨g', 0, none⟩) cap' := by
  have hln : (acc ++ [nm]).length = acc.length + 1 := by simp
  exact ⟨hq, hf, by rw [hln]; omega, (hS.alloc ob).append hg hx hgw, Gr.append ((hgr.trans hW).alloc ob) hx (Nat.le_refl _) hgw, by rw [hln, List.map_append]; exact ho⟩

set_option maxHeartbeats 1000000 in
theorem par_any (len g f : Nat) (st : PS) (w : World) (hS : St w g len st) (hf : st.ts.length < f) (hf2 : f ≤ 100000) :
    Calls Tryz.prog 90 #[.pointer (some ⟨g, 0, none⟩)] w (Names g len w (parP len f st)) := by
  have hg : g < w.heap.size := hS.lt
  have HT := hide (takeSign_any len g st ⟨#[41]⟩ w hS)
  unfold parP
  cases hb : st.isS ⟨#[41]⟩
  · rw [if_neg (by decide)]
    have e1 : st.takeS ⟨#[41]⟩ = (false, st) := by unfold PS.takeS; rw [hb]; rfl
    rw [e1] at HT
    have HN := hide (fun W (x : St W g len st) => name_p len g st W x)
    have hl0 := name_le st len
    obtain ⟨F, hF⟩ : ∃ F, F = parLoop len f [(st.name len).1] (st.name len).2 := ⟨_, rfl⟩
    rw [← hF]
    have HF := hide hF
    clear hF e1 hb hS
    generalize (st.name len) = q at *
    obtain ⟨nm, st2⟩ := q
    obtain ⟨i0, hi, hz0, hz1, hz2⟩ := info_parts infoS
    have HI := hide hi
    have Z0 := hide hz0
    have Z1 := hide hz1
    have Z2 := hide hz2
    clear hi hz0 hz1 hz2
    go_enter Tryz.func90, Tryz.ntmps90
    go_wp2_with (first
      | (go_at_call 120; refine Calls.mono (unhide HT) ?_; rintro e w1 ⟨rfl, hs, hw⟩; have S1 := hide hs; have X1 := hide hw; clear hw hs)
      | (go_at_call 88; refine Calls.mono (unhide HN _ (unhide S1)) ?_; rintro e w2 ⟨rfl, hs, hw⟩; have S2 := hide hs; have X2 := hide hw; have X12 := hide ((unhide X1).trans hw); clear hw hs)
      | (at_builtin; refine wpList_append_where rfl (.tmp 5) (.tmp 8) 22 rfl w.heap.size 9 i0 (.string emptyB) 1 16 Tryz.underlying22 (unhide HI) (unhide Z0) (unhide Z1) (unhide Z2) rfl (by decide) none 0 0 [] rfl (World.ownsRow_nil _ _ _ _) ⟨w2.heap.size, 0, none⟩ 1 1 [.string nm] rfl (by decide) rfl (cells_new w2 _ _) (one_str _) ?c1 ?c2 ?c3 ?_))
    case c1 => unfold maxLen; omega
    case c2 => omega
    case c3 => have := (unhide X12).size; simp; omega
    intro g' cap2 w3 ho3 hg3 hw3
    have hl0 : st2.ts.length ≤ st.ts.length := hl0
    have MI : Hd (ParI g len w w3 F st2 f [nm] (some ⟨g', 0, none⟩) cap2) := ParI.snoc (acc := []) _ hg (unhide X1) (unhide X2) (unhide S2) (unhide HF) (by omega) (by simp; omega) (World.ownsRow_nil _ _ _ _) ho3 hg3
    clear ho3 hg3 hw3 S1 X1 S2 X2 X12 HF HN
    go_wp2_with fail
    go_loopw [2] (fun t wr => ∃ (acc : List ByteArray) (ao : Option Addr) (cap : Nat) (stc : PS) (j : Nat), t = .slice ao acc.length cap ∧ Hd (ParI g len w wr F stc j acc ao cap)) (fun _ wr => leftN g wr)
    case atStart => exact ⟨_, _, _, st2, f, rfl, MI⟩
    case round =>
      clear MI
      obtain ⟨acc, ao, cap, stc, j, rfl, hM⟩ := hrel
      have HTC := hide (takeSign_any len g stc ⟨#[44]⟩ wr (unhide hM).st)
      have hfu := (unhide hM).fuel
      obtain ⟨j, rfl⟩ : ∃ i, j = i + 1 := ⟨j - 1, by omega⟩
      cases hb : stc.isS ⟨#[44]⟩
      · have e1 : stc.takeS ⟨#[44]⟩ = (false, stc) := by unfold PS.takeS; rw [hb]; rfl
        rw [e1] at HTC
        have hF2 : F = (acc, stc) := by rw [(unhide hM).eq, parLoop, hb]; rfl
        subst hF2
        have HG := hide (fun W (x : St W g len stc) => psign_any len g stc ⟨#[41]⟩ W x)
        clear e1 hb
        go_wp2_with (first
          | (go_at_call 120; refine Calls.mono (unhide HTC) ?_; rintro e w4 ⟨rfl, hs, hw⟩; have S4 := hide hs; have X4 := hide hw; clear hw hs)
          | (go_at_call 89; refine Calls.mono (unhide HG _ (unhide S4)) ?_; rintro e w5 ⟨rfl, hs, hw⟩; have S5 := hide hs; have X5 := hide ((unhide X4).trans hw); clear hw hs))
        go_ret
        obtain ⟨d1, d2⟩ := own_S (own_gr (unhide hM).own (unhide X5) hg)
        exact ⟨ao, cap, rfl, d1, d2, unhide S5, (unhide hM).gr.trans (unhide X5)⟩
      · have e1 : stc.takeS ⟨#[44]⟩ = (true, stc.next) := by unfold PS.takeS; rw [hb]; rfl
        rw [e1] at HTC
        have hlt := next_lt hb
        have hl1 := name_le stc.next len
        have hF2 : F = parLoop len j (acc ++ [(stc.next.name len).1]) (stc.next.name len).2 := by rw [(unhide hM).eq, parLoop, hb]; rfl
        have HF2 := hide hF2
        have HN := hide (fun W (x : St W g len stc.next) => name_p len g stc.next W x)
        have hm0 : leftN g wr = stc.ts.length := left_st (unhide hM).st
        have hbd := (unhide hM).bnd
        clear e1 hb hF2
        generalize stc.next.name len = q at *
        obtain ⟨nm1, st4⟩ := q
        have hl1 : st4.ts.length ≤ stc.next.ts.length := hl1
        have HXS := hide (fun w2 (x : Gr g wr w2) => own_gr (unhide hM).own x hg)
        generalize hA : acc.length = A at *
        go_wp2_with (first
          | (go_at_call 120; refine Calls.mono (unhide HTC) ?_; rintro e w4 ⟨rfl, hs, hw⟩; have S4 := hide hs; have X4 := hide hw; clear hw hs)
          | (go_at_call 88; refine Calls.mono (unhide HN _ (unhide S4)) ?_; rintro e w5 ⟨rfl, hs, hw⟩; have S5 := hide hs; have X5 := hide hw; have X45 := hide ((unhide X4).trans hw); clear hw hs)
          | (at_builtin; refine wpList_append_where rfl (.tmp 12) (.tmp 15) 22 rfl w.heap.size 9 i0 (.string emptyB) 1 16 Tryz.underlying22 (unhide HI) (unhide Z0) (unhide Z1) (unhide Z2) rfl (by decide) ao A cap (acc.map Value.string) rfl (unhide HXS _ ((unhide X45).alloc _)) ⟨w5.heap.size, 0, none⟩ 1 1 [.string nm1] rfl (by decide) rfl (cells_new w5 _ _) (one_str _) ?c1 ?c2 ?c3 ?_))
        case c1 => unfold maxLen; omega
        case c2 => omega
        case c3 => have := (unhide hM).gr.size; have := (unhide X45).size; simp; omega
        intro g2 cap6 w6 ho6 hg6 hw6
        subst hA
        have MN : Hd (ParI g len w w6 F st4 j (acc ++ [nm1]) (some ⟨g2, 0, none⟩) cap6) := ParI.snoc _ hg (unhide hM).gr (unhide X45) (unhide S5) (unhide HF2) (by omega) (by omega) (unhide HXS _ ((unhide X45).alloc _)) ho6 hg6
        have hm1 : leftN g w6 = st4.ts.length := left_st (unhide MN).st
        have hln : (acc ++ [nm1]).length = acc.length + 1 := by simp
        clear ho6 hg6 hw6
        go_wp2_with fail
        go_roundw
        case rel => exact ⟨_, _, _, st4, j, by rw [hln], MN⟩
        case measure => rw [hm0, hm1]; omega
  · rw [if_pos rfl]
    have e1 : st.takeS ⟨#[41]⟩ = (true, st.next) := by unfold PS.takeS; rw [hb]; rfl
    rw [e1] at HT
    clear e1 hb hS
    go_enter Tryz.func90, Tryz.ntmps90
    go_wp2_with (go_at_call 120; refine Calls.mono (unhide HT) ?_; rintro e w1 ⟨rfl, hs, hw⟩; have S1 := hide hs; have X1 := hide hw; clear hw hs)
    go_ret
    exact ⟨none, 0, rfl, Nat.le_refl _, Or.inl rfl, unhide S1, unhide X1⟩

end Go.Proofs.YtbcflcnkhhkogaaGreatDoor
