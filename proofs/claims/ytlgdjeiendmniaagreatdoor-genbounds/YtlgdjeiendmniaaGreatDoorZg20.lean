/- A comparison, which stands once. -/
import Derived.Test.YtlgdjeiendmniaaGreatDoorZg13
set_option linter.unusedSimpArgs false
set_option linter.unusedVariables false
set_option maxRecDepth 10000

namespace Go.Proofs.YtlgdjeiendmniaaGreatDoor
open Go.RowKit

theorem set5_past {w : World} {g : Nat} {k0 o0 n0 : Int} {s0 : ByteArray} {l0 : Value} (h : w.heap[g]? = some (nodO k0 o0 s0 n0 l0)) (k o : Int) (s : ByteArray) (n : Int) (l : Value) (i : Nat) (v : Value) (hi : (#[.int .i64 k, .int .i64 o, .string s, .int .i64 n, l] : Array Value)[i]? = some v) (p : Obj) : ((set5 w g k o s n l).alloc p).cell? ⟨g, i, none⟩ = some v :=
  rowC ((Ext.alloc _ p).row (set5_row h k o s n l)) i hi

set_option maxHeartbeats 8000000 in
theorem cmp_any (len g : Nat) (sb : Rdr) (st : PS) (w : World) (hR : Rs w g len st) (hsh : ∀ s, (sb s).2.ts.length ≤ s.ts.length)
    (hsb : ∀ s : PS, s.ts.length ≤ st.ts.length → ExIs g len 181 sb s w) :
    Calls Tryz.prog 171 #[.pointer (some ⟨g, 0, none⟩)] w (Tree g len w (cmpP sb st)) := by
  have hg : g < w.heap.size := hR.st.lt
  unfold cmpP
  have HX0 := hide (hsb st (Nat.le_refl _))
  have HX := hide hsb
  have HSH := hide hsh
  have hl0 := hsh st
  have HR := hide hR
  clear hR hsb hsh
  unfold ExIs at HX0
  generalize sb st = q at HX0 hl0 ⊢
  obtain ⟨⟨k, o, s, n, l⟩, st1⟩ := q
  have HT := hide (fun W (x : Rs W g len st1) => takeOp_any len g st1 3 W x.op x.st)
  have hle1 := takeO_le st1 3
  obtain ⟨R, hRR⟩ : ∃ R : PN × PS, R = (match st1.takeO 3 with | (none, s1) => (⟨k, o, s, n, l⟩, s1) | (some x, s1) => (x.node [⟨k, o, s, n, l⟩, (sb s1).1], (sb s1).2)) := ⟨_, rfl⟩
  show Calls _ _ _ _ (Tree g len w (match st1.takeO 3 with | (none, s1) => (⟨k, o, s, n, l⟩, s1) | (some x, s1) => (x.node [⟨k, o, s, n, l⟩, (sb s1).1], (sb s1).2)))
  rw [← hRR]
  cases hq : st1.takeO 3 with
  | mk x stc =>
  rw [hq] at HT hRR hle1
  have hle1 : stc.ts.length ≤ st1.ts.length := hle1
  cases x with
  | none =>
    simp only [Option.getD_none, Option.isSome_none] at HT hRR
    go_enter Tryz.func171, Tryz.ntmps171
    go_wp2_with (first
      | (go_at_call 181; refine Calls.mono (unhide HX0 _ (Gr.of (Ext.alloc _ _)) ((unhide HR).alloc _)) ?_; rintro e w1 ⟨v, rfl, hr, hs, hw⟩; rw [RepN] at hr; obtain ⟨a, cap, rfl, hcap, hl⟩ := hr; have RB := hide (hw.row (Go.heap_alloc_new w _) (by omega)); have S1 := hide hs; have L1 := hide hl; have X1 := hide ((Gr.of (Ext.alloc _ _)).trans hw); have hlt1 : w.heap.size < w1.heap.size := (Array.getElem?_eq_some_iff.1 (unhide RB)).1; clear hw hs hl)
      | (go_at_call 160; refine Calls.mono (unhide HT _ (((unhide HR).go (unhide X1) (unhide S1)).alloc _)) ?_; rintro e w2 ⟨rfl, hs, hw⟩; have RB2 := hide (hw.row ((Ext.alloc _ _).row (unhide RB)) (by omega)); have RC := hide (hw.row (Go.heap_alloc_new w1 _) (by omega)); have S2 := hide hs; have X2 := hide ((Gr.of (Ext.alloc _ _)).trans hw); have hlt2 : w1.heap.size < w2.heap.size := (Array.getElem?_eq_some_iff.1 (unhide RC)).1; have d0 := rowC (unhide RC) 0 rfl; have d1 := rowC (unhide RC) 1 rfl; have d2 := rowC (unhide RC) 2 rfl; have d3 := rowC (unhide RC) 3 rfl; have d4 := rowC (unhide RC) 4 rfl; have r0 := rowC (unhide RB2) 0 rfl; have r1 := rowC (unhide RB2) 1 rfl; have r2 := rowC (unhide RB2) 2 rfl; have r3 := rowC (unhide RB2) 3 rfl; have r4 := rowC (unhide RB2) 4 rfl; have rz := rowF (unhide RB2); have hlt3 : w.heap.size < w2.heap.size := Nat.lt_trans hlt1 hlt2; clear hw hs))
    have G2 : Gr g w w2 := (unhide X1).trans (unhide X2)
    have T2 := tree_end hg (unhide S2) G2 hcap ((unhide L1).gr (unhide X2) (by simp; omega) (by simp)) (k := k) (o := o) (n := n) (s := s)
    have e0 := set5_past (unhide RB2) k o s n (.slice a l.length cap) 0 _ rfl
    have e1 := set5_past (unhide RB2) k o s n (.slice a l.length cap) 1 _ rfl
    have e2 := set5_past (unhide RB2) k o s n (.slice a l.length cap) 2 _ rfl
    have e3 := set5_past (unhide RB2) k o s n (.slice a l.length cap) 3 _ rfl
    have e4 := set5_past (unhide RB2) k o s n (.slice a l.length cap) 4 _ rfl
    rw [hRR]
    exact bodyPost_ret (v := nodV k o s n (.slice a l.length cap)) (by simp [results, Tryz.results171, go_sem, e0, e1, e2, e3, e4]) rfl (T2.gr hg (Gr.of (Ext.alloc _ _)) (((unhide S2).set5 hg _ _ _ _ _).alloc _))
  | some z =>
    simp only [Option.getD_some, Option.isSome_some] at HT hRR
    go_enter Tryz.func171, Tryz.ntmps171
    go_wp2_with (first
      | (go_at_call 181; refine Calls.mono (unhide HX0 _ (Gr.of (Ext.alloc _ _)) ((unhide HR).alloc _)) ?_; rintro e w1 ⟨v, rfl, hr, hs, hw⟩; rw [RepN] at hr; obtain ⟨a, cap, rfl, hcap, hl⟩ := hr; have RB := hide (hw.row (Go.heap_alloc_new w _) (by omega)); have S1 := hide hs; have L1 := hide hl; have X1 := hide ((Gr.of (Ext.alloc _ _)).trans hw); have hlt1 : w.heap.size < w1.heap.size := (Array.getElem?_eq_some_iff.1 (unhide RB)).1; clear hw hs hl)
      | (go_at_call 160; refine Calls.mono (unhide HT _ (((unhide HR).go (unhide X1) (unhide S1)).alloc _)) ?_; rintro e w2 ⟨rfl, hs, hw⟩; have RB2 := hide (hw.row ((Ext.alloc _ _).row (unhide RB)) (by omega)); have RC := hide (hw.row (Go.heap_alloc_new w1 _) (by omega)); have S2 := hide hs; have X2 := hide ((Gr.of (Ext.alloc _ _)).trans hw); have hlt2 : w1.heap.size < w2.heap.size := (Array.getElem?_eq_some_iff.1 (unhide RC)).1; clear hw hs))
    have LI : Hd (LvI 3 sb g len w (w2.alloc (.cells #[.string z.s, .int .i64 z.lv, .int .i64 z.k, .int .i64 z.o] 198)) (loopP 3 sb (stc.ts.length + 1) (z.node [⟨k, o, s, n, l⟩, (sb stc).1]) (sb stc).2) w1.heap.size w2.heap.size true k o s n l a cap z stc (stc.ts.length + 1)) := by
      have G2 : Gr g w w2 := (unhide X1).trans (unhide X2)
      refine ⟨rfl, fun _ => Nat.lt_succ_self _, (Ext.alloc _ _).row (unhide RB2), (Ext.alloc _ _).row (unhide RC), Go.heap_alloc_new w2 _, hcap, ?_, hlt1, hlt2, ((unhide HR).go G2 (unhide S2)).alloc _, G2.alloc _⟩
      refine RepNL.to (fun b hb => ⟨⟨?fa, ?fb, ?fc, ?fd⟩, ?fe⟩) _ _ (unhide L1)
      case fa => have := hb.1; rw [size_alloc] at this; omega
      case fb => have := hb.2; rw [size_alloc]; omega
      case fc => have := hb.2; omega
      case fd => have := hb.2; omega
      case fe => rw [(Ext.alloc w2 _).block b (by have := hb.2; omega)]; exact (unhide X2).block b hb.2 (by have := hb.1; rw [size_alloc] at this; omega)
    have WR : ∃ wr, wr = w2.alloc (.cells #[.string z.s, .int .i64 z.lv, .int .i64 z.k, .int .i64 z.o] 198) := ⟨_, rfl⟩
    obtain ⟨wr, hwr⟩ := WR
    rw [← hwr] at LI ⊢
    have hI := LI
    have hJ := unhide hI
    have p0 := rowC hJ.r3 0 rfl
    have p1 := rowC hJ.r3 1 rfl
    have p2 := rowC hJ.r3 2 rfl
    have p3 := rowC hJ.r3 3 rfl
    have p4 := rowC hJ.r3 4 rfl
    have h3 := hJ.h3
    have h34 := hJ.h34
    obtain ⟨b4, hb4e⟩ : ∃ b, b = w2.heap.size := ⟨_, rfl⟩
    rw [← hb4e] at hI hJ h34 ⊢
    have q0 := rowC hJ.r4 0 rfl
    have q1 := rowC hJ.r4 1 rfl
    have q2 := rowC hJ.r4 2 rfl
    have q3 := rowC hJ.r4 3 rfl
    have HXs := hide (unhide HX stc (by omega))
    have hl2 := unhide HSH stc
    have hb4 : b4 < wr.heap.size := (Array.getElem?_eq_some_iff.1 hJ.r4).1
    obtain ⟨R2, hR2⟩ : ∃ R2, R2 = loopP 3 sb (stc.ts.length + 1) (z.node [⟨k, o, s, n, l⟩, (sb stc).1]) (sb stc).2 := ⟨_, rfl⟩
    rw [← hR2] at hI
    have HRR := hide hR2
    have HRX := hide hRR
    clear hRR hR2 hJ LI hwr hb4e
    unfold ExIs at HXs
    generalize sb stc = q at HXs HRR HRX hl2
    obtain ⟨⟨k2, o2, s2, n2, l2⟩, st2⟩ := q
    have D0 : Hd (Gr g w wr.drew) := (unhide hI).gr.drew
    have D1 : Hd (Rs wr.drew g len stc) := (unhide hI).rs.ext (Ext.drew (Ext.refl _))
    go_wp2_with fail
    go_region_law (first
      | (refine step_call_one rfl 181 (.tmp 16) 77 rfl _ (by simp [Act.eval, Act.put]) (enterSum _ _) (Calls.mono (unhide HXs _ (unhide D0) (unhide D1)) ?_); rintro e w3 ⟨v, rfl, hr, hs, hw⟩; rw [RepN] at hr; obtain ⟨a2, cap2, rfl, hcap2, hl3⟩ := hr; have RE := hide (hw.row (unhide hI).r3 (by omega)); have RF := hide (hw.row (unhide hI).r4 (by omega)); have p0 := rowC (unhide RE) 0 rfl; have p1 := rowC (unhide RE) 1 rfl; have p2 := rowC (unhide RE) 2 rfl; have p3 := rowC (unhide RE) 3 rfl; have p4 := rowC (unhide RE) 4 rfl; have q0 := rowC (unhide RF) 0 rfl; have q1 := rowC (unhide RF) 1 rfl; have q2 := rowC (unhide RF) 2 rfl; have q3 := rowC (unhide RF) 3 rfl; have S3 := hide hs; have L3 := hide hl3; have X3 := hide hw; have hb43 : b4 < w3.heap.size := Nat.lt_of_lt_of_le hb4 hw.size; clear hw hs hl3; refine ⟨_, rfl, ?_⟩)
      | (refine step_call_two rfl 161 (.tmp 14) (.tmp 18) 198 58 rfl _ _ (by simp [Act.eval, Act.put]) (by simp [Act.eval, Act.put]) (enterNode _ _ _) (Calls.mono (node_any z (some ⟨w3.heap.size, 0, none⟩) 2 2 _) ?_); rintro e w4 ⟨rfl, hw⟩; have RG := hide (hw.row ((Ext.alloc _ _).row (unhide RE))); have RH := hide (hw.row ((Ext.alloc _ _).row (unhide RF))); have RI := hide (hw.row (Go.heap_alloc_new w3 _)); have p0 := rowC (unhide RG) 0 rfl; have p1 := rowC (unhide RG) 1 rfl; have p2 := rowC (unhide RG) 2 rfl; have p3 := rowC (unhide RG) 3 rfl; have p4 := rowC (unhide RG) 4 rfl; have pz := rowF (unhide RG); have q0 := rowC (unhide RH) 0 rfl; have q1 := rowC (unhide RH) 1 rfl; have q2 := rowC (unhide RH) 2 rfl; have q3 := rowC (unhide RH) 3 rfl; have X4 := hide ((Ext.alloc _ _).trans hw); have hb44 : b4 < w4.heap.size := (Array.getElem?_eq_some_iff.1 (unhide RH)).1; clear hw; refine ⟨_, rfl, ?_⟩))
    all_goals
      have LM := LvM.of (unhide HR) (unhide hI) (unhide HRR) hl2 (Gr.drew_of (unhide X3)) (unhide S3) hcap2 (unhide L3) (unhide X4) (unhide RI)
      refine gen_world (F := fun W5 => Exit.then _ _ Exit.normal _ W5) ?_
      intro W5 hW5
      replace hW5 : W5 = set5 w4 w1.heap.size z.k z.o emptyB 0 (.slice (some ⟨w3.heap.size, 0, none⟩) 2 2) := hW5
      rw [← hW5] at LM
      have v0 := rowC LM.r3 0 rfl
      have v1 := rowC LM.r3 1 rfl
      have v2 := rowC LM.r3 2 rfl
      have v3 := rowC LM.r3 3 rfl
      have v4 := rowC LM.r3 4 rfl
      have r0 := rowC LM.r2 0 rfl
      have r1 := rowC LM.r2 1 rfl
      have r2 := rowC LM.r2 2 rfl
      have r3 := rowC LM.r2 3 rfl
      have r4 := rowC LM.r2 4 rfl
      have rz := rowF LM.r2
      have M := hide LM
      clear LM hW5 RE RF RG RH RI S3 L3 X3 X4 hI
      go_wp2_with fail
      rw [unhide HRX]
      exact bodyPost_ret (v := nodV z.k z.o emptyB 0 (.slice (some ⟨w3.heap.size, 0, none⟩) 2 2)) (by simp [results, Tryz.results171, go_sem, r0, r1, r2, r3, r4]) rfl (tree_end hg (unhide M).rs.st (unhide M).gr (Nat.le_refl _) (RepNL.to (fun b hb => ⟨⟨hb.1, hb.2.1⟩, rfl⟩) _ _ (unhide M).rep) (k := z.k) (o := z.o) (n := 0) (s := emptyB))

end Go.Proofs.YtlgdjeiendmniaaGreatDoor
