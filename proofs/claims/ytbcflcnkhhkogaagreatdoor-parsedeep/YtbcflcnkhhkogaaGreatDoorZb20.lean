/- Blocks. -/
import Derived.Test.YtbcflcnkhhkogaaGreatDoorZb19
set_option linter.unusedSimpArgs false
set_option linter.unusedVariables false
set_option maxRecDepth 10000

namespace Go.Proofs.YtbcflcnkhhkogaaGreatDoor
open Go.RowKit

theorem BlkI.shut {g len : Nat} {sm : Rdr} {w wr w6 : World} {F : List PN × PS} {stc st6 : PS} {k : Nat} {acc : List PN} {ao : Option Addr} {cap : Nat} (h : BlkI g len sm w wr F stc k acc ao cap) (hg : g < w.heap.size) (X : Gr g wr w6) (S : St w6 g len st6) :
    Tree g len w (⟨10, 0, emptyB, 0, acc⟩, st6) (.returned (nodV 10 0 emptyB 0 (.slice ao acc.length cap))) (set5 w6 w.heap.size 10 0 emptyB 0 (.slice ao acc.length cap)) := by
  obtain ⟨d1, d2⟩ := (h.hold.on X (by omega)).done
  exact tree_end hg S (h.gr.trans X) d1 (RepNL.to (fun b hb => ⟨⟨by have := hb.1; omega, hb.2⟩, rfl⟩) _ _ d2)

theorem enterStm (v : Value) (w : World) : (callFunc 124 #[v]).run Tryz.prog w = .ok (.enter 124 #[v]) w := by kernel_rfl

set_option maxHeartbeats 8000000 in
theorem blk_any (len g : Nat) (sm : Rdr) (f : Nat) (st : PS) (w : World) (hR : Rs w g len st) (hf : st.ts.length < f) (hf2 : f ≤ 100000) (hlt : st.ts ≠ [] → ∀ s : PS, s.ts ≠ [] → (sm s).2.ts.length < s.ts.length)
    (hsm : ∀ s : PS, s.ts.length < st.ts.length → ExIs g len 124 sm s w) :
    Calls Tryz.prog 91 #[.pointer (some ⟨g, 0, none⟩)] w (Tree g len w (blkP len sm f st)) := by
  have hg : g < w.heap.size := hR.st.lt
  unfold blkP
  have HS := hide (fun W (x : Ext w W) => isSign_any len g st ⟨#[123]⟩ W (hR.st.ext x))
  cases hb : st.isS ⟨#[123]⟩
  · rw [if_neg (by decide)]
    rw [hb] at HS
    have HF := hide (fun W (x : St W g len st) => fail_any len g st 10 W x)
    have HR := hide hR
    clear hR hlt hsm
    go_enter_defers Tryz.func91, Tryz.ntmps91
    go_wp2_with (first
      | (go_at_call 121; refine Calls.mono (unhide HS _ ((Ext.alloc w _).trans (Ext.alloc _ _))) ?_; rintro e w1 ⟨rfl, hw⟩; have RB := hide (hw.row ((Ext.alloc _ _).row (Go.heap_alloc_new w _))); have RN := hide (hw.row (Go.heap_alloc_new (w.alloc _) _)); have X1 := hide (((Ext.alloc w _).trans (Ext.alloc _ _)).trans hw); clear hw)
      | (go_at_call 44; refine Calls.mono (unhide HF _ ((unhide HR).st.ext (unhide X1))) ?_; rintro e w2 ⟨rfl, hs, hw⟩; have RC := hide (hw.row (unhide RB) (by omega)); have RD := hide (hw.row (unhide RN) (by simp; omega)); have r0 := rowC (unhide RC) 0 rfl; have r1 := rowC (unhide RC) 1 rfl; have r2 := rowC (unhide RC) 2 rfl; have r3 := rowC (unhide RC) 3 rfl; have r4 := rowC (unhide RC) 4 rfl; have rz := rowF (unhide RC); have d0 := rowC (unhide RD) 0 rfl; have d1 := rowC (unhide RD) 1 rfl; have d2 := rowC (unhide RD) 2 rfl; have d3 := rowC (unhide RD) 3 rfl; have d4 := rowC (unhide RD) 4 rfl; simp only [size_alloc] at d0 d1 d2 d3 d4; have S2 := hide hs; have X2 := hide ((Gr.of (unhide X1)).trans hw); clear hw hs))
    exact ⟨_, res_node rfl _ _ w.heap.size 10 0 emptyB 0 _ rfl (set5_row (unhide RC) _ _ _ _ _), tree_end (l := []) hg (unhide S2) (unhide X2) (Nat.zero_le _) (by simp [RepNL])⟩
  · rw [if_pos rfl]
    rw [hb] at HS
    have hne := isS_ne hb
    have HE := hide (fun W (x : St W g len st) => enter_p len g st W x)
    have HN := hide (fun W (x : St W g len (st.enter len)) => next_any len g (st.enter len) W x)
    have hl0 := enter_next_lt len hne
    have HX := hide hsm
    have HLT := hide (hlt hne)
    have HR := hide hR
    obtain ⟨F, hF⟩ : ∃ F, F = blkLoop sm f [] (st.enter len).next := ⟨_, rfl⟩
    rw [← hF]
    have HF := hide hF
    clear hR hlt hsm hF hb hne
    obtain ⟨i0, hi, hz0, hz1, hz2⟩ := info_parts infoN
    have HI := hide hi
    have Z0 := hide hz0
    have Z1 := hide hz1
    have Z2 := hide hz2
    clear hi hz0 hz1 hz2
    go_enter_defers Tryz.func91, Tryz.ntmps91
    go_wp2_with (first
      | (go_at_call 121; refine Calls.mono (unhide HS _ ((Ext.alloc w _).trans (Ext.alloc _ _))) ?_; rintro e w1 ⟨rfl, hw⟩; have RB := hide (hw.row ((Ext.alloc _ _).row (Go.heap_alloc_new w _))); have RN := hide (hw.row (Go.heap_alloc_new (w.alloc _) _)); have X1 := hide (((Ext.alloc w _).trans (Ext.alloc _ _)).trans hw); clear hw)
      | (go_at_call 122; refine Calls.mono (unhide HE _ ((unhide HR).st.ext (unhide X1))) ?_; rintro e w2 ⟨rfl, hs, hw⟩; have RB2 := hide (hw.row (unhide RB) (by omega)); have RN2 := hide (hw.row (unhide RN) (by simp; omega)); have S2 := hide hs; have X2 := hide ((Gr.of (unhide X1)).trans hw); clear hw hs)
      | (go_at_call 85; refine Calls.mono (unhide HN _ (unhide S2)) ?_; rintro e w3 ⟨rfl, hs, hw⟩; have RB3 := hide (hw.row (unhide RB2) (by omega)); have RN3 := hide (hw.row (unhide RN2) (by simp; omega)); have S3 := hide hs; have X3 := hide ((unhide X2).trans hw); clear hw hs))
    have MI : Hd (BlkI g len sm w w3 F (st.enter len).next f [] none 0) := ⟨unhide HF, by omega, by simp; omega, (unhide HR).go (unhide X3) (unhide S3), unhide X3, unhide RB3, by have h := unhide RN3; rw [size_alloc] at h; exact h, HoldB.nil _ _⟩
    clear RB RN X1 RB2 RN2 S2 X2 RB3 RN3 S3 X3 HF HE HN HS
    generalize (st.enter len).next = st3 at *
    go_loopw [] (fun wr => ∃ (acc : List PN) (ao : Option Addr) (cap : Nat) (stc : PS) (j : Nat), Hd (BlkI g len sm w wr F stc j acc ao cap) ∧ stc.ts.length < st.ts.length) (fun wr => leftN g wr)
    case atStart => exact ⟨_, _, _, st3, f, MI, hl0⟩
    case round =>
      clear MI
      obtain ⟨acc, ao, cap, stc, j, hM, hle⟩ := hrel
      have hfu := (unhide hM).fuel
      obtain ⟨j, rfl⟩ : ∃ i, j = i + 1 := ⟨j - 1, by omega⟩
      have HEn := hide (ended_any len g stc wr (unhide hM).rs.st)
      have HSg := hide (fun W (x : Ext wr W) => isSign_any len g stc ⟨#[125]⟩ W ((unhide hM).rs.st.ext x))
      have HG := hide (fun W (x : St W g len stc) => psign_any len g stc ⟨#[125]⟩ W x)
      cases hz : ((stc.ts.length : Int) == 0)
      · rw [hz] at HEn
        cases hb : stc.isS ⟨#[125]⟩
        · rw [hb] at HSg
          have hstop : stc.stop = false := by unfold PS.stop; rw [hz, hb]; rfl
          have hF2 : F = blkLoop sm j (acc ++ [(sm stc).1]) (sm stc).2 := by rw [(unhide hM).eq, blkLoop, hstop]; rfl
          have HF2 := hide hF2
          have HX1 := hide (unhide HX stc hle)
          have hl1 := unhide HLT stc (fun e => by rw [e] at hz; simp at hz)
          have hm0 : leftN g wr = stc.ts.length := left_st (unhide hM).rs.st
          have hbd := (unhide hM).bnd
          clear hF2 hstop hz hb HG
          unfold ExIs at HX1
          generalize sm stc = q at HX1 HF2 hl1
          obtain ⟨⟨k, o, s, n, l⟩, st5⟩ := q
          obtain ⟨xs, hx⟩ := (unhide hM).hold.own
          have HXS := hide (fun w2 (x : Gr g wr w2) => heldB_on hx x (by omega))
          clear hx
          generalize hA : acc.length = A at *
          have hr3 : w.heap.size + 1 < wr.heap.size := (Array.getElem?_eq_some_iff.1 (unhide hM).r3).1
          go_wp2_with (first
            | (go_at_call 43; refine Calls.mono (unhide HEn) ?_; rintro e w4 ⟨rfl, hw⟩; obtain rfl := hw.symm)
            | (go_at_call 121; refine Calls.mono (unhide HSg _ (Ext.refl _)) ?_; rintro e w4 ⟨rfl, hw⟩; have X4 := hide hw; have RF := hide (hw.row (unhide hM).r3); have d0 := rowC (unhide RF) 0 rfl; have d1 := rowC (unhide RF) 1 rfl; have d2 := rowC (unhide RF) 2 rfl; have d3 := rowC (unhide RF) 3 rfl; have d4 := rowC (unhide RF) 4 rfl; have hb4 : wr.heap.size ≤ w4.heap.size := hw.le; clear hw))
          have D0 : Hd (Gr g wr w4.drew) := (Gr.of (unhide X4)).drew
          have D1 : Hd (Rs w4.drew g len stc) := (unhide hM).rs.ext (Ext.drew (unhide X4))
          refine wp_nrm ?_
          first | skip; go_region_law (first
            | (refine step_call_one rfl 124 (.tmp 26) 47 rfl _ (by simp [Act.eval, Act.put]) (enterStm _ _) (Calls.mono (unhide HX1 _ ((unhide hM).gr.trans (unhide D0)) (unhide D1)) ?_); rintro e w5 ⟨v, rfl, hr, hs, hw⟩; rw [RepN] at hr; obtain ⟨a, c, rfl, hcap, hl⟩ := hr; have X5 := hide ((unhide D0).trans hw); have RG := hide ((unhide X5).row (unhide hM).r3 (by omega)); have d0 := rowC (unhide RG) 0 rfl; have d1 := rowC (unhide RG) 1 rfl; have d2 := rowC (unhide RG) 2 rfl; have d3 := rowC (unhide RG) 3 rfl; have d4 := rowC (unhide RG) 4 rfl; have S5 := hide hs; have L5 : Hd (RepNL w5 (Fr wr.heap.size w5.heap.size) l a) := RepNL.to (fun b hb => ⟨⟨Nat.le_trans hb4 hb.1, hb.2⟩, rfl⟩) _ _ hl; have hb5 : w.heap.size + 1 < w5.heap.size := (Array.getElem?_eq_some_iff.1 (unhide RG)).1; clear hw hs hl; refine ⟨_, rfl, ?_⟩)
            | (refine step_append_where rfl (.tmp 25) (.tmp 28) 23 rfl (w.heap.size + 2) 25 i0 (nodV 0 0 emptyB 0 (.slice none 0 0)) 5 64 Tryz.underlying23 (unhide HI) (unhide Z0) (unhide Z1) (unhide Z2) rfl (by decide) ao A cap xs (by simp [Act.eval, Act.put]) (unhide HXS _ ((unhide X5).alloc _)).1 ⟨w5.heap.size, 0, none⟩ 1 1 [.int .i64 k, .int .i64 o, .string s, .int .i64 n, .slice a l.length c] (by simp [Act.eval, Act.put]) (by decide) rfl (cells_new w5 _ _) (one_cells _ _ _ _ _ _ _) (by unfold maxLen; omega) (by omega) (by simp; omega) ?_; intro g2 cap6 w6 ho6 hg6 hw6; have RZ := hide ((below_grown (unhide HXS _ ((unhide X5).alloc _)).1 hg6 (w.heap.size + 1) (by omega) (by simp; omega)).trans ((Ext.alloc _ _).row (unhide RG))); have z0 := rowC (unhide RZ) 0 rfl; have z1 := rowC (unhide RZ) 1 rfl; have z2 := rowC (unhide RZ) 2 rfl; have z3 := rowC (unhide RZ) 3 rfl; have z4 := rowC (unhide RZ) 4 rfl; have zz := rowF (unhide RZ); have HO6 := hide ho6; have HG6 := hide hg6; have HW6 := hide hw6; clear ho6 hg6 hw6)) | fail
          all_goals
            subst hA
            have hN := BlkI.snoc (k := k) (o := o) (n := n) (s := s) (unhide HR) (unhide hM) (unhide HF2) hl1 (unhide X5) (unhide S5) hcap (unhide L5) _ (unhide HXS _ ((unhide X5).alloc _)) (unhide HO6) (unhide HG6) (by have h := unhide HW6; rw [size_alloc] at h; exact h)
            refine gen_world (F := fun W7 => Exit.inBlock 1 _ Exit.normal _ W7) ?_
            intro W7 hW7
            rw [← hW7] at hN
            have MN := hide hN
            have hm1 : leftN g W7 = st5.ts.length := left_st hN.rs.st
            clear hN hW7 HO6 HG6 HW6 RZ RG X5 S5 L5 z0 z1 z2 z3 z4 zz d0 d1 d2 d3 d4
            go_wp2_with fail
            go_roundw
            case rel => exact ⟨_, _, _, st5, j, MN, by omega⟩
            case measure => rw [hm0, hm1]; omega
        · rw [hb] at HSg
          have hstop : stc.stop = true := by unfold PS.stop; rw [hb, Bool.or_true]
          have hF2 : F = (acc, stc) := by rw [(unhide hM).eq, blkLoop, hstop]; rfl
          subst hF2
          clear hstop hz hb
          go_wp2_with (first
            | (go_at_call 43; refine Calls.mono (unhide HEn) ?_; rintro e w4 ⟨rfl, hw⟩; obtain rfl := hw.symm)
            | (go_at_call 121; refine Calls.mono (unhide HSg _ (Ext.refl _)) ?_; rintro e w5 ⟨rfl, hw⟩; have X5 := hide (Gr.of (g := g) hw); have S5 := hide ((unhide hM).rs.st.ext hw); clear hw)
            | (go_at_call 89; refine Calls.mono (unhide HG _ (unhide S5)) ?_; rintro e w6 ⟨rfl, hs, hw⟩; have X6 := hide ((unhide X5).trans hw); have RE := hide ((unhide X6).row (unhide hM).r2 (by omega)); have RF := hide ((unhide X6).row (unhide hM).r3 (by omega)); have r0 := rowC (unhide RE) 0 rfl; have r1 := rowC (unhide RE) 1 rfl; have r2 := rowC (unhide RE) 2 rfl; have r3 := rowC (unhide RE) 3 rfl; have r4 := rowC (unhide RE) 4 rfl; have rz := rowF (unhide RE); have d0 := rowC (unhide RF) 0 rfl; have d1 := rowC (unhide RF) 1 rfl; have d2 := rowC (unhide RF) 2 rfl; have d3 := rowC (unhide RF) 3 rfl; have d4 := rowC (unhide RF) 4 rfl; have S6 := hide hs; clear hw hs))
          have T6 := (unhide hM).shut hg (unhide X6) (unhide S6)
          refine leaves_cons (f := 123) (args := #[.pointer (some ⟨g, 0, none⟩)]) (by simp) (by simp [go_sem]) ?_
          refine (leave_p len g _ .returning _ ((unhide S6).set5 hg _ _ _ _ _)).mono ?_
          rintro e u' w7 ⟨rfl, rfl, hs, hw⟩
          exact ⟨_, res_node rfl _ _ w.heap.size 10 0 emptyB 0 _ rfl (hw.row (set5_row (unhide RE) _ _ _ _ _) (by omega)), T6.gr hg hw hs⟩
      · rw [hz] at HEn
        have hstop : stc.stop = true := by unfold PS.stop; rw [hz, Bool.true_or]
        have hF2 : F = (acc, stc) := by rw [(unhide hM).eq, blkLoop, hstop]; rfl
        subst hF2
        have S5 : Hd (St wr g len stc) := (unhide hM).rs.st
        have X5 : Hd (Gr g wr wr) := Gr.refl _ _
        clear hstop hz
        go_wp2_with (first
          | (go_at_call 43; refine Calls.mono (unhide HEn) ?_; rintro e w4 ⟨rfl, hw⟩; obtain rfl := hw.symm)
          | (go_at_call 89; refine Calls.mono (unhide HG _ (unhide S5)) ?_; rintro e w6 ⟨rfl, hs, hw⟩; have X6 := hide ((unhide X5).trans hw); have RE := hide ((unhide X6).row (unhide hM).r2 (by omega)); have RF := hide ((unhide X6).row (unhide hM).r3 (by omega)); have r0 := rowC (unhide RE) 0 rfl; have r1 := rowC (unhide RE) 1 rfl; have r2 := rowC (unhide RE) 2 rfl; have r3 := rowC (unhide RE) 3 rfl; have r4 := rowC (unhide RE) 4 rfl; have rz := rowF (unhide RE); have d0 := rowC (unhide RF) 0 rfl; have d1 := rowC (unhide RF) 1 rfl; have d2 := rowC (unhide RF) 2 rfl; have d3 := rowC (unhide RF) 3 rfl; have d4 := rowC (unhide RF) 4 rfl; have S6 := hide hs; clear hw hs))
        have T6 := (unhide hM).shut hg (unhide X6) (unhide S6)
        refine leaves_cons (f := 123) (args := #[.pointer (some ⟨g, 0, none⟩)]) (by simp) (by simp [go_sem]) ?_
        refine (leave_p len g _ .returning _ ((unhide S6).set5 hg _ _ _ _ _)).mono ?_
        rintro e u' w7 ⟨rfl, rfl, hs, hw⟩
        exact ⟨_, res_node rfl _ _ w.heap.size 10 0 emptyB 0 _ rfl (hw.row (set5_row (unhide RE) _ _ _ _ _) (by omega)), T6.gr hg hw hs⟩

end Go.Proofs.YtbcflcnkhhkogaaGreatDoor
