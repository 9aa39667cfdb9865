/- What operators of the level 1 join, from left to right. -/
import Derived.Test.YtlgdjeiendmniaaGreatDoorZg13
set_option linter.unusedSimpArgs false
set_option linter.unusedVariables false
set_option maxRecDepth 10000

namespace Go.Proofs.YtlgdjeiendmniaaGreatDoor
open Go.RowKit

set_option maxHeartbeats 8000000 in
theorem lev1_any (len g : Nat) (sb : Rdr) (f : Nat) (st : PS) (w : World) (hR : Rs w g len st) (hf : st.ts.length < f) (hsh : ∀ s, (sb s).2.ts.length ≤ s.ts.length)
    (hsb : ∀ s : PS, s.ts.length ≤ st.ts.length → ExIs g len 159 sb s w) :
    Calls Tryz.prog 147 #[.pointer (some ⟨g, 0, none⟩)] w (Tree g len w (levP 1 sb f st)) := by
  have hg : g < w.heap.size := hR.st.lt
  unfold levP
  have HX0 := hide (hsb st (Nat.le_refl _))
  have HX := hide hsb
  have HSH := hide hsh
  have hl0 := hsh st
  have HR := hide hR
  obtain ⟨R, hRR⟩ : ∃ R, R = loopP 1 sb f (sb st).1 (sb st).2 := ⟨_, rfl⟩
  rw [← hRR]
  have HRR := hide hRR
  clear hR hsb hsh hRR
  unfold ExIs at HX0
  generalize sb st = q at HX0 HRR hl0
  obtain ⟨⟨k, o, s, n, l⟩, st1⟩ := q
  have HT := hide (fun W (x : Rs W g len st1) => takeOp_any len g st1 1 W x.op x.st)
  obtain ⟨f, rfl⟩ : ∃ i, f = i + 1 := ⟨f - 1, by omega⟩
  go_enter Tryz.func147, Tryz.ntmps147
  go_wp2_with (first
    | (go_at_call 159; refine Calls.mono (unhide HX0 _ (Gr.of (Ext.alloc _ _)) ((unhide HR).alloc _)) ?_; rintro e w1 ⟨v, rfl, hr, hs, hw⟩; rw [RepN] at hr; obtain ⟨a, cap, rfl, hcap, hl⟩ := hr; have RB := hide (hw.row (Go.heap_alloc_new w _) (by omega)); have S1 := hide hs; have L1 := hide hl; have X1 := hide ((Gr.of (Ext.alloc _ _)).trans hw); have hlt1 : w.heap.size < w1.heap.size := (Array.getElem?_eq_some_iff.1 (unhide RB)).1; clear hw hs hl)
    | (go_at_call 160; refine Calls.mono (unhide HT _ (((unhide HR).go (unhide X1) (unhide S1)).alloc _)) ?_; rintro e w2 ⟨rfl, hs, hw⟩; have RB2 := hide (hw.row ((Ext.alloc _ _).row (unhide RB)) (by omega)); have RC := hide (hw.row (Go.heap_alloc_new w1 _) (by omega)); have S2 := hide hs; have X2 := hide ((Gr.of (Ext.alloc _ _)).trans hw); have hlt2 : w1.heap.size < w2.heap.size := (Array.getElem?_eq_some_iff.1 (unhide RC)).1; clear hw hs))
  have eRR : R = if (st1.takeO 1).1.isSome then loopP 1 sb f (((st1.takeO 1).1.getD oprZ).node [⟨k, o, s, n, l⟩, (sb (st1.takeO 1).2).1]) (sb (st1.takeO 1).2).2 else (⟨k, o, s, n, l⟩, (st1.takeO 1).2) := (unhide HRR).trans (loop_eq _ _ _ _ _)
  have hle1 := takeO_le st1 1
  have hlt0 := takeO_lt (st := st1) (lv := 1)
  generalize (st1.takeO 1).1.isSome = bb at *
  generalize (st1.takeO 1).1.getD oprZ = z at *
  generalize (st1.takeO 1).2 = stc at *
  have LI : Hd (LvI 1 sb g len w (w2.alloc (.cells #[.string z.s, .int .i64 z.lv, .int .i64 z.k, .int .i64 z.o] 198)) R w1.heap.size w2.heap.size bb k o s n l a cap z stc f) := by
    have G2 : Gr g w w2 := (unhide X1).trans (unhide X2)
    refine ⟨eRR, fun h => by have := hlt0 h; omega, (Ext.alloc _ _).row (unhide RB2), (Ext.alloc _ _).row (unhide RC), Go.heap_alloc_new w2 _, hcap, ?_, hlt1, hlt2, ((unhide HR).go G2 (unhide S2)).alloc _, G2.alloc _⟩
    refine RepNL.to (fun b hb => ⟨⟨?fa, ?fb, ?fc, ?fd⟩, ?fe⟩) _ _ (unhide L1)
    case fa => have := hb.1; rw [size_alloc] at this; omega
    case fb => have := hb.2; rw [size_alloc]; omega
    case fc => have := hb.2; omega
    case fd => have := hb.2; omega
    case fe => rw [(Ext.alloc w2 _).block b (by have := hb.2; omega)]; exact (unhide X2).block b hb.2 (by have := hb.1; rw [size_alloc] at this; omega)
  clear eRR hlt0 HT HRR HX0 RB RB2 RC S1 S2 L1 X1 X2 hcap
  go_loopw [4, 5] (fun t4 t5 wr => ∃ (b4 : Nat) (bb : Bool) (k o : Int) (s : ByteArray) (n : Int) (l : List PN) (a : Option Addr) (cap : Nat) (z : Opr) (stc : PS) (j : Nat), t4 = .pointer (some ⟨b4, 0, none⟩) ∧ t5 = .bool bb ∧ Hd (LvI 1 sb g len w wr R w1.heap.size b4 bb k o s n l a cap z stc j) ∧ stc.ts.length ≤ st.ts.length) (fun _ t5 wr => 2 * leftN g wr + (match t5 with | .bool true => 1 | _ => 0))
  case atStart => exact ⟨_, bb, _, _, _, _, _, _, _, _, stc, f, rfl, rfl, LI, by omega⟩
  case round =>
    clear LI
    obtain ⟨b4, bb, k, o, s, n, l, a, cap, z, stc, j, rfl, rfl, hI, hle⟩ := hrel
    have hJ := unhide hI
    have p0 := rowC hJ.r3 0 rfl
    have p1 := rowC hJ.r3 1 rfl
    have p2 := rowC hJ.r3 2 rfl
    have p3 := rowC hJ.r3 3 rfl
    have p4 := rowC hJ.r3 4 rfl
    have h3 := hJ.h3
    have h34 := hJ.h34
    cases bb
    · have hRR : R = (⟨k, o, s, n, l⟩, stc) := hJ.eq
      have r0 := rowC hJ.r2 0 rfl
      have r1 := rowC hJ.r2 1 rfl
      have r2 := rowC hJ.r2 2 rfl
      have r3 := rowC hJ.r2 3 rfl
      have r4 := rowC hJ.r2 4 rfl
      have rz := rowF hJ.r2
      clear hJ
      go_wp2
      rw [hRR]
      exact bodyPost_ret (v := nodV k o s n (.slice a l.length cap)) (by simp [results, Tryz.results147, go_sem, r0, r1, r2, r3, r4]) rfl (tree_end hg (unhide hI).rs.st (unhide hI).gr (unhide hI).hc (RepNL.to (fun b hb => ⟨⟨hb.1, hb.2.1⟩, rfl⟩) _ _ (unhide hI).rep) (k := k) (o := o) (n := n) (s := s))
    · have q0 := rowC hJ.r4 0 rfl
      have q1 := rowC hJ.r4 1 rfl
      have q2 := rowC hJ.r4 2 rfl
      have q3 := rowC hJ.r4 3 rfl
      have hRR : R = loopP 1 sb j (z.node [⟨k, o, s, n, l⟩, (sb stc).1]) (sb stc).2 := hJ.eq
      have hfu := hJ.fuel rfl
      have HXs := hide (unhide HX stc hle)
      have hl2 := unhide HSH stc
      have hb4 : b4 < wr.heap.size := (Array.getElem?_eq_some_iff.1 hJ.r4).1
      have HRR := hide hRR
      unfold ExIs at HXs
      generalize sb stc = q at HXs HRR hl2
      obtain ⟨⟨k2, o2, s2, n2, l2⟩, st2⟩ := q
      clear hJ hRR
      have D0 : Hd (Gr g w wr.drew) := (unhide hI).gr.drew
      have D1 : Hd (Rs wr.drew g len stc) := (unhide hI).rs.ext (Ext.drew (Ext.refl _))
      go_wp2_with fail
      go_region_law (first
        | (refine step_call_one rfl 159 (.tmp 21) 77 rfl _ (by simp [Act.eval, Act.put]) (enterBoth _ _) (Calls.mono (unhide HXs _ (unhide D0) (unhide D1)) ?_); rintro e w3 ⟨v, rfl, hr, hs, hw⟩; rw [RepN] at hr; obtain ⟨a2, cap2, rfl, hcap2, hl3⟩ := hr; have RE := hide (hw.row (unhide hI).r3 (by omega)); have RF := hide (hw.row (unhide hI).r4 (by omega)); have p0 := rowC (unhide RE) 0 rfl; have p1 := rowC (unhide RE) 1 rfl; have p2 := rowC (unhide RE) 2 rfl; have p3 := rowC (unhide RE) 3 rfl; have p4 := rowC (unhide RE) 4 rfl; have q0 := rowC (unhide RF) 0 rfl; have q1 := rowC (unhide RF) 1 rfl; have q2 := rowC (unhide RF) 2 rfl; have q3 := rowC (unhide RF) 3 rfl; have S3 := hide hs; have L3 := hide hl3; have X3 := hide hw; have hb43 : b4 < w3.heap.size := Nat.lt_of_lt_of_le hb4 hw.size; clear hw hs hl3; refine ⟨_, rfl, ?_⟩)
        | (refine step_call_two rfl 161 (.tmp 19) (.tmp 23) 198 58 rfl _ _ (by simp [Act.eval, Act.put]) (by simp [Act.eval, Act.put]) (enterNode _ _ _) (Calls.mono (node_any z (some ⟨w3.heap.size, 0, none⟩) 2 2 _) ?_); rintro e w4 ⟨rfl, hw⟩; have RG := hide (hw.row ((Ext.alloc _ _).row (unhide RE))); have RH := hide (hw.row ((Ext.alloc _ _).row (unhide RF))); have RI := hide (hw.row (Go.heap_alloc_new w3 _)); have p0 := rowC (unhide RG) 0 rfl; have p1 := rowC (unhide RG) 1 rfl; have p2 := rowC (unhide RG) 2 rfl; have p3 := rowC (unhide RG) 3 rfl; have p4 := rowC (unhide RG) 4 rfl; have pz := rowF (unhide RG); have q0 := rowC (unhide RH) 0 rfl; have q1 := rowC (unhide RH) 1 rfl; have q2 := rowC (unhide RH) 2 rfl; have q3 := rowC (unhide RH) 3 rfl; have X4 := hide ((Ext.alloc _ _).trans hw); have hb44 : b4 < w4.heap.size := (Array.getElem?_eq_some_iff.1 (unhide RH)).1; clear hw; refine ⟨_, rfl, ?_⟩))
      all_goals
        have LM := LvM.of (unhide HR) (unhide hI) (unhide HRR) hl2 (Gr.drew_of (unhide X3)) (unhide S3) hcap2 (unhide L3) (unhide X4) (unhide RI)
        refine gen_world (F := fun W5 => Exit.inBlock 1 (Exit.then _ _) Exit.normal _ W5) ?_
        intro W5 hW5
        replace hW5 : W5 = set5 w4 w1.heap.size z.k z.o emptyB 0 (.slice (some ⟨w3.heap.size, 0, none⟩) 2 2) := hW5
        rw [← hW5] at LM
        have RK : W5.heap[b4]? = some (oprO z) := by rw [hW5, set5_block (by omega)]; exact unhide RH
        have q0 := rowC RK 0 rfl
        have q1 := rowC RK 1 rfl
        have q2 := rowC RK 2 rfl
        have q3 := rowC RK 3 rfl
        have hm0 : leftN g wr = stc.ts.length := left_st (unhide hI).rs.st
        have HT := hide (fun W (x : Rs W g len st2) => takeOp_any len g st2 1 W x.op x.st)
        have hgW : g < W5.heap.size := LM.rs.st.lt
        have hfj := LM.fuel
        obtain ⟨j, rfl⟩ : ∃ i, j = i + 1 := ⟨j - 1, by omega⟩
        have M := hide LM
        have hle2 := takeO_le st2 1
        have hlt2 := takeO_lt (st := st2) (lv := 1)
        clear LM hW5 RK RE RF RG RH RI S3 L3 X3 X4 hI
        go_wp2_with (go_at_call 160; refine Calls.mono (unhide HT _ ((unhide M).rs.alloc _)) ?_; rintro e w6 ⟨rfl, hs, hw⟩; have LH := hide (LvM.head (z := z) (unhide HR) (unhide M) hw hs); have RM := hw.row (Go.heap_alloc_new W5 _) (by omega); have z0 := rowC RM 0 rfl; have z1 := rowC RM 1 rfl; have z2 := rowC RM 2 rfl; have z3 := rowC RM 3 rfl; have zz := rowF RM; clear RM hw hs)
        have hm1 := left_st (unhide LH).rs.st
        generalize (st2.takeO 1).1.isSome = bb at *
        generalize (st2.takeO 1).1.getD oprZ = y at *
        generalize (st2.takeO 1).2 = std at *
        go_roundw
        case rel => exact ⟨_, bb, _, _, _, _, _, _, _, y, std, j, rfl, rfl, LH, by omega⟩
        case measure =>
          rw [hm0, hm1]
          cases bb
          · simp; omega
          · have := hlt2 rfl
            simp; omega

end Go.Proofs.YtlgdjeiendmniaaGreatDoor
