/- Ops of one place, ahead of their operand. -/
import Derived.Test.YtlgdjeiendmniaaGreatDoorZg14
set_option linter.unusedSimpArgs false
set_option linter.unusedVariables false
set_option maxRecDepth 10000

namespace Go.Proofs.YtlgdjeiendmniaaGreatDoor
open Go.RowKit

/-- One tree in a block of its own. -/
theorem one_rep {W : World} {F : Nat → Prop} {B : Nat} {t : TypeId} {k o n : Int} {s : ByteArray} {l : List PN} {a : Option Addr} {cap : Nat} (hB : W.heap[B]? = some (.cells #[.int .i64 k, .int .i64 o, .string s, .int .i64 n, .slice a l.length cap] t (0, 0)))
    (hF : F B) (h1 : l.length ≤ cap) (r1 : RepNL W F l a) : RepNL W F [⟨k, o, s, n, l⟩] (some ⟨B, 0, none⟩) := by
  rw [RepNL]
  exact ⟨B, 0, _, _, _, _, _, rfl, hF, by rw [RepN]; exact ⟨a, cap, rfl, h1, r1⟩, rowC hB 0 rfl, rowC hB 1 rfl, rowC hB 2 rfl, rowC hB 3 rfl, rowC hB 4 rfl, by simp [RepNL]⟩

set_option maxHeartbeats 8000000 in
theorem sgn_any (len g : Nat) (sg ex : Rdr) (f : Nat) (st : PS) (w : World) (hR : Rs w g len st)
    (hix : st.oper 6 = none → ∀ W, Gr g w W → Rs W g len st → Calls Tryz.prog 194 #[.pointer (some ⟨g, 0, none⟩)] W (Tree g len W (idxP len ex f st)))
    (hsg : (st.oper 6).isSome = true → ExIs g len 189 sg (st.enter len).next w) :
    Calls Tryz.prog 189 #[.pointer (some ⟨g, 0, none⟩)] w (Tree g len w (sgnP len sg ex f st)) := by
  have hg : g < w.heap.size := hR.st.lt
  unfold sgnP
  have HT := hide (fun W (x : Rs W g len st) => oper_gr len g st 6 W x)
  have HR := hide hR
  cases hq : st.oper 6 with
  | none =>
    rw [hq] at HT
    simp only [Option.getD_none, Option.isSome_none] at HT
    have HX := hide (hix hq)
    clear hix hsg hR hq
    show Calls _ _ _ _ (Tree g len w (idxP len ex f st))
    generalize idxP len ex f st = q at HX ⊢
    obtain ⟨⟨k, o, s, n, l⟩, st3⟩ := q
    go_enter_defers Tryz.func189, Tryz.ntmps189
    go_wp2_with (first
      | (go_at_call 172; refine Calls.mono (unhide HT _ ((unhide HR).alloc _)) ?_; rintro e w1 ⟨rfl, hs, hw⟩; have RB := hide (hw.row (Go.heap_alloc_new w _) (by omega)); have S1 := hide hs; have X1 := hide ((Gr.of (Ext.alloc _ _)).trans hw); have hlt1 : w.heap.size < w1.heap.size := (Array.getElem?_eq_some_iff.1 (unhide RB)).1; clear hw hs)
      | (go_at_call 194; refine Calls.mono (unhide HX _ ((unhide X1).alloc _) (((unhide HR).go (unhide X1) (unhide S1)).alloc _)) ?_; rintro e w3 ⟨v, rfl, hr, hs, hw⟩; rw [RepN] at hr; obtain ⟨a, cap, rfl, hcap, hl⟩ := hr; have RD := hide (hw.row ((Ext.alloc _ _).row (unhide RB)) (by omega)); have r0 := rowC (unhide RD) 0 rfl; have r1 := rowC (unhide RD) 1 rfl; have r2 := rowC (unhide RD) 2 rfl; have r3 := rowC (unhide RD) 3 rfl; have r4 := rowC (unhide RD) 4 rfl; have rz := rowF (unhide RD); have S3 := hide hs; have L3 := hide hl; have X3 := hide (((unhide X1).alloc _).trans hw); clear hw hs hl))
    exact ⟨_, res_node rfl _ _ w.heap.size k o s n _ rfl (set5_row (unhide RD) _ _ _ _ _), tree_end hg (unhide S3) (unhide X3) hcap ((unhide L3).gr (Gr.refl g _) (by simp; omega) (by simp; omega)) (k := k) (o := o) (n := n) (s := s)⟩
  | some z =>
    rw [hq] at HT
    simp only [Option.getD_some, Option.isSome_some] at HT
    have HX := hide (hsg (by rw [hq]; rfl))
    unfold ExIs at HX
    clear hix hsg hR hq
    show Calls _ _ _ _ (Tree g len w (z.node [(sg (st.enter len).next).1], (sg (st.enter len).next).2.leave))
    generalize sg (st.enter len).next = q at HX ⊢
    obtain ⟨⟨k, o, s, n, l⟩, st3⟩ := q
    have HE := hide (fun W (x : St W g len st) => enter_p len g st W x)
    have HN := hide (fun W (x : St W g len (st.enter len)) => next_any len g (st.enter len) W x)
    go_enter_defers Tryz.func189, Tryz.ntmps189
    go_wp2_with (first
      | (go_at_call 172; refine Calls.mono (unhide HT _ ((unhide HR).alloc _)) ?_; rintro e w1 ⟨rfl, hs, hw⟩; have RB := hide (hw.row (Go.heap_alloc_new w _) (by omega)); have S1 := hide hs; have X1 := hide ((Gr.of (Ext.alloc _ _)).trans hw); have hlt1 : w.heap.size < w1.heap.size := (Array.getElem?_eq_some_iff.1 (unhide RB)).1; clear hw hs)
      | (go_at_call 115; refine Calls.mono (unhide HE _ ((unhide S1).alloc _)) ?_; rintro e w2 ⟨rfl, hs, hw⟩; have RC := hide (hw.row ((Ext.alloc _ _).row (unhide RB)) (by omega)); have RO := hide (hw.row (Go.heap_alloc_new w1 _) (by omega)); have S2 := hide hs; have X2 := hide (((unhide X1).alloc _).trans hw); clear hw hs)
      | (go_at_call 112; refine Calls.mono (unhide HN _ (unhide S2)) ?_; rintro e w3 ⟨rfl, hs, hw⟩; have RD := hide (hw.row (unhide RC) (by omega)); have RP := hide (hw.row (unhide RO) (by omega)); have q0 := rowC (unhide RP) 0 rfl; have q1 := rowC (unhide RP) 1 rfl; have q2 := rowC (unhide RP) 2 rfl; have q3 := rowC (unhide RP) 3 rfl; have S3 := hide hs; have X3 := hide ((unhide X2).trans hw); have hlt3 : w1.heap.size < w3.heap.size := (Array.getElem?_eq_some_iff.1 (unhide RP)).1; clear hw hs))
    have D0 : Hd (Gr g w w3.drew) := (unhide X3).drew
    have D1 : Hd (Rs w3.drew g len (st.enter len).next) := ((unhide HR).go (unhide X3) (unhide S3)).ext (Ext.drew (Ext.refl _))
    first | skip; go_region_law (first
      | (refine step_call_one rfl 189 (.tmp 20) 77 rfl _ (by simp [Act.eval, Act.put]) (enterSigned _ _) (Calls.mono (unhide HX _ (unhide D0) (unhide D1)) ?_); rintro e w4 ⟨v, rfl, hr, hs, hw⟩; rw [RepN] at hr; obtain ⟨a, cap, rfl, hcap, hl⟩ := hr; have RE := hide (hw.row (unhide RD) (by omega)); have RQ := hide (hw.row (unhide RP) (by omega)); have q0 := rowC (unhide RQ) 0 rfl; have q1 := rowC (unhide RQ) 1 rfl; have q2 := rowC (unhide RQ) 2 rfl; have q3 := rowC (unhide RQ) 3 rfl; have r0 := rowC (unhide RE) 0 rfl; have r1 := rowC (unhide RE) 1 rfl; have r2 := rowC (unhide RE) 2 rfl; have r3 := rowC (unhide RE) 3 rfl; have r4 := rowC (unhide RE) 4 rfl; have S4 := hide hs; have L4 := hide hl; have X4 := hide hw; have hb14 : w1.heap.size < w4.heap.size := Nat.lt_of_lt_of_le hlt3 hw.size; have hb04 : w.heap.size < w4.heap.size := Nat.lt_trans hlt1 hb14; clear hw hs hl; refine ⟨_, rfl, ?_⟩)
      | (refine step_call_two rfl 161 (.tmp 19) (.tmp 22) 198 58 rfl _ _ (by simp [Act.eval, Act.put]) (by simp [Act.eval, Act.put]) (enterNode _ _ _) (Calls.mono (node_any z (some ⟨w4.heap.size, 0, none⟩) 1 1 _) ?_); rintro e w5 ⟨rfl, hw⟩; have RG := hide (hw.row ((Ext.alloc _ _).row (unhide RE))); have RI := hide (hw.row (Go.heap_alloc_new w4 _)); have r0 := rowC (unhide RG) 0 rfl; have r1 := rowC (unhide RG) 1 rfl; have r2 := rowC (unhide RG) 2 rfl; have r3 := rowC (unhide RG) 3 rfl; have r4 := rowC (unhide RG) 4 rfl; have rz := rowF (unhide RG); have X5 := hide ((Ext.alloc _ _).trans hw); have hb15 : w1.heap.size < w5.heap.size := Nat.lt_of_lt_of_le hb14 (unhide X5).size; clear hw; refine ⟨_, rfl, ?_⟩)) | fail
    all_goals
      have G5 : Gr g w w5 := ((unhide D0).trans (unhide X4)).trans (Gr.of (unhide X5))
      have hsz := (unhide X4).size
      have hlt5 : w4.heap.size < w5.heap.size := (Array.getElem?_eq_some_iff.1 (unhide RI)).1
      have L5 : RepNL w5 (fun b => w.heap.size < b ∧ b < w5.heap.size) l a := RepNL.to (fun b hb => ⟨⟨by have h1 : w3.heap.size ≤ b := hb.1; omega, Nat.lt_of_lt_of_le hb.2 (unhide X5).size⟩, (unhide X5).block b hb.2⟩) _ _ (unhide L4)
      have T5 := tree_end (l := [⟨k, o, s, n, l⟩]) hg ((unhide S4).ext (unhide X5)) G5 (Nat.le_refl 1) (one_rep (F := fun b => w.heap.size < b ∧ b < w5.heap.size) (unhide RI) ⟨by have h1 : w3.heap.size ≤ w4.heap.size := hsz; omega, hlt5⟩ hcap L5) (k := z.k) (o := z.o) (n := 0) (s := emptyB)
      go_wp2_with fail
      refine leaves_cons (f := 116) (args := #[.pointer (some ⟨g, 0, none⟩)]) (by simp) (by simp [go_sem]) ?_
      refine (leave_p len g _ .returning _ (((unhide S4).ext (unhide X5)).set5 hg _ _ _ _ _)).mono ?_
      rintro e u' w6 ⟨rfl, rfl, hs, hw⟩
      exact ⟨_, res_node rfl _ _ w.heap.size z.k z.o emptyB 0 _ rfl (hw.row (set5_row (unhide RG) _ _ _ _ _) (by omega)), T5.gr hg hw hs⟩

end Go.Proofs.YtlgdjeiendmniaaGreatDoor
