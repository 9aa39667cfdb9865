/- What stands behind an else. -/
import Derived.Test.YtjeledllejlpcaaGreatDoorZs16
set_option linter.unusedSimpArgs false
set_option linter.unusedVariables false
set_option maxRecDepth 10000

namespace Go.Proofs.YtjeledllejlpcaaGreatDoor
open Go.RowKit

theorem takeW_no (len g : Nat) (st : PS) (s : ByteArray) (W : World) (hb : st.isW s = false) (hS : St W g len st) :
    Calls Tryz.prog 44 #[.pointer (some ⟨g, 0, none⟩), .string s] W fun e w' => e = .returned (.bool false) ∧ St w' g len st ∧ Gr g W w' := by
  have h := takeWord_any len g st s W hS
  unfold PS.takeW at h
  rw [hb] at h
  exact h
theorem takeW_yes (len g : Nat) (st : PS) (s : ByteArray) (W : World) (hb : st.isW s = true) (hS : St W g len st) :
    Calls Tryz.prog 44 #[.pointer (some ⟨g, 0, none⟩), .string s] W fun e w' => e = .returned (.bool true) ∧ St w' g len st.next ∧ Gr g W w' := by
  have h := takeWord_any len g st s W hS
  unfold PS.takeW at h
  rw [hb] at h
  exact h

/-- The end of a function that reads a tree, a block made ahead of the last store. -/
theorem tree_end_alloc {g len : Nat} {w w2 : World} {st' : PS} {k o n : Int} {s : ByteArray} {a : Option Addr} {cap : Nat} {l : List PN} (hg : g < w.heap.size) (hlt : w.heap.size < w2.heap.size) (hs : St w2 g len st') (hw : Gr g w w2) (ob : Obj) (hl : l.length ≤ cap) (hr : RepNL (w2.alloc ob) (fun b => w.heap.size < b ∧ b < (w2.alloc ob).heap.size) l a) :
    Tree g len w (⟨k, o, s, n, l⟩, st') (.returned (nodV k o s n (.slice a l.length cap))) ((set5 w2 w.heap.size k o s n (.slice a l.length cap)).alloc ob) := by
  have hz : ((set5 w2 w.heap.size k o s n (.slice a l.length cap)).alloc ob).heap.size = w2.heap.size + 1 := by rw [size_alloc, set5_size]
  have hz2 : (w2.alloc ob).heap.size = w2.heap.size + 1 := size_alloc _ _
  refine ⟨_, rfl, ?_, (hs.set5 hg _ _ _ _ _).alloc _, (hw.set5 (Nat.le_refl _) _ _ _ _ _).alloc _⟩
  rw [RepN]
  refine ⟨a, cap, rfl, hl, RepNL.to (fun b hb => ⟨⟨by omega, by rw [hz]; have := hb.2; omega⟩, ?_⟩) _ _ hr⟩
  by_cases hb2 : b < w2.heap.size
  · rw [(Ext.alloc _ ob).block b (by rw [set5_size]; exact hb2), set5_block (by omega), (Ext.alloc w2 ob).block b hb2]
  · have e : b = w2.heap.size := by have := hb.2; omega
    subst e
    have h1 := Go.heap_alloc_new (set5 w2 w.heap.size k o s n (.slice a l.length cap)) ob
    rw [set5_size] at h1
    rw [h1, Go.heap_alloc_new w2 ob]

set_option maxHeartbeats 1000000 in
theorem oth_any (len g : Nat) (ch bl : Rdr) (st : PS) (w : World) (hR : Rs w g len st) (hch : st.isW ⟨#[105, 102]⟩ = true → ExIs g len 72 ch st.next w) (hbl : st.isW ⟨#[105, 102]⟩ = false → ExIs g len 31 bl st w) :
    Calls Tryz.prog 82 #[.pointer (some ⟨g, 0, none⟩)] w (Tree g len w (othP ch bl st)) := by
  have hg : g < w.heap.size := hR.st.lt
  unfold othP
  have HR := hide hR
  have X : Hd (Gr g (w.alloc (.cells #[.int .i64 0, .int .i64 0, .string ⟨#[]⟩, .int .i64 0, .slice none 0 0] 54)) (w.alloc (.cells #[.int .i64 0, .int .i64 0, .string ⟨#[]⟩, .int .i64 0, .slice none 0 0] 54))) := Gr.refl _ _
  have SX : Hd (St (w.alloc (.cells #[.int .i64 0, .int .i64 0, .string ⟨#[]⟩, .int .i64 0, .slice none 0 0] 54)) g len st) := hR.st.alloc _
  clear hR
  cases b1 : st.isW ⟨#[105, 102]⟩
  · rw [if_neg (by decide)]
    have HX := hide (hbl b1)
    unfold ExIs at HX
    clear hch hbl
    generalize bl st = q at HX
    obtain ⟨⟨k, o, s, n, l⟩, st3⟩ := q
    go_enter Tryz.func82, Tryz.ntmps82
    go_wp2_with (first
      | (go_at_call 44; refine Calls.mono (takeW_no len g st _ _ (by assumption) (unhide SX)) ?_; rintro e w1 ⟨rfl, hs, hw⟩; replace X := hide ((unhide X).trans hw); replace SX := hide hs; clear hw hs)
      | (go_at_call 31; refine Calls.mono (unhide HX _ ((Gr.of (Ext.alloc w _)).trans (unhide X)) ((unhide HR).go ((Gr.of (Ext.alloc w _)).trans (unhide X)) (unhide SX))) ?_; rintro e w2 ⟨v, rfl, hr, hs, hw⟩; rw [RepN] at hr; obtain ⟨a, cap, rfl, hcap, hl⟩ := hr; have hlt := Nat.lt_of_lt_of_le (Nat.lt_succ_self w.heap.size) (Nat.le_trans (Nat.le_of_eq (size_alloc w _).symm) (unhide X).size); have RD := hide (hw.row ((unhide X).row (Go.heap_alloc_new w _) (by omega)) (by omega)); have r0 := rowC (unhide RD) 0 rfl; have r1 := rowC (unhide RD) 1 rfl; have r2 := rowC (unhide RD) 2 rfl; have r3 := rowC (unhide RD) 3 rfl; have r4 := rowC (unhide RD) 4 rfl; have rz := rowF (unhide RD); have S3 := hide hs; have L3 := hide hl; have X3 := hide (((Gr.of (Ext.alloc w _)).trans (unhide X)).trans hw); clear hw hs hl))
    exact bodyPost_ret (v := nodV k o s n (.slice a l.length cap)) (by simp [results, Tryz.results82, go_sem, r0, r1, r2, r3, r4]) rfl (tree_end hg (unhide S3) (unhide X3) hcap ((unhide L3).gr (Gr.refl g _) (by omega) (by omega)) (k := k) (o := o) (n := n) (s := s))
  · rw [if_pos rfl]
    have HX := hide (hch b1)
    unfold ExIs at HX
    clear hch hbl
    generalize ch st.next = q at HX
    obtain ⟨⟨k, o, s, n, l⟩, st3⟩ := q
    go_enter Tryz.func82, Tryz.ntmps82
    go_wp2_with (first
      | (go_at_call 44; refine Calls.mono (takeW_yes len g st _ _ (by assumption) (unhide SX)) ?_; rintro e w1 ⟨rfl, hs, hw⟩; replace X := hide ((unhide X).trans hw); have SY := hide hs; clear hw hs)
      | (go_at_call 72; refine Calls.mono (unhide HX _ ((Gr.of (Ext.alloc w _)).trans (unhide X)) ((unhide HR).go ((Gr.of (Ext.alloc w _)).trans (unhide X)) (unhide SY))) ?_; rintro e w2 ⟨v, rfl, hr, hs, hw⟩; rw [RepN] at hr; obtain ⟨a, cap, rfl, hcap, hl⟩ := hr; have hlt := Nat.lt_of_lt_of_le (Nat.lt_succ_self w.heap.size) (Nat.le_trans (Nat.le_of_eq (size_alloc w _).symm) (unhide X).size); have RD := hide (hw.row ((unhide X).row (Go.heap_alloc_new w _) (by omega)) (by omega)); have r0 := rowC (unhide RD) 0 rfl; have r1 := rowC (unhide RD) 1 rfl; have r2 := rowC (unhide RD) 2 rfl; have r3 := rowC (unhide RD) 3 rfl; have r4 := rowC (unhide RD) 4 rfl; have rz := rowF (unhide RD); have S3 := hide hs; have L3 := hide hl; have X3 := hide (((Gr.of (Ext.alloc w _)).trans (unhide X)).trans hw); have hlt2 : w.heap.size < w2.heap.size := (Array.getElem?_eq_some_iff.1 (unhide RD)).1; clear hw hs hl))
    have L4 : RepNL (w2.alloc (.cells #[.int .i64 k, .int .i64 o, .string s, .int .i64 n, .slice a l.length cap] 54)) (fun b => w.heap.size < b ∧ b < (w2.alloc (.cells #[.int .i64 k, .int .i64 o, .string s, .int .i64 n, .slice a l.length cap] 54)).heap.size) l a := (unhide L3).gr (Gr.of (g := g) (Ext.alloc _ _)) (by omega) (by omega)
    have T4 := tree_end_alloc (l := [⟨k, o, s, n, l⟩]) hg hlt2 (unhide S3) (unhide X3) _ (Nat.le_refl 1) (one_rep (F := fun b => w.heap.size < b ∧ b < (w2.alloc (.cells #[.int .i64 k, .int .i64 o, .string s, .int .i64 n, .slice a l.length cap] 54)).heap.size) (Go.heap_alloc_new w2 _) ⟨hlt2, by simp⟩ hcap L4) (k := 10) (o := 0) (n := 0) (s := emptyB)
    have e0 := set5_past (unhide RD) 10 0 emptyB 0 (.slice (some ⟨w2.heap.size, 0, none⟩) 1 1) 0 _ rfl
    have e1 := set5_past (unhide RD) 10 0 emptyB 0 (.slice (some ⟨w2.heap.size, 0, none⟩) 1 1) 1 _ rfl
    have e2 := set5_past (unhide RD) 10 0 emptyB 0 (.slice (some ⟨w2.heap.size, 0, none⟩) 1 1) 2 _ rfl
    have e3 := set5_past (unhide RD) 10 0 emptyB 0 (.slice (some ⟨w2.heap.size, 0, none⟩) 1 1) 3 _ rfl
    have e4 := set5_past (unhide RD) 10 0 emptyB 0 (.slice (some ⟨w2.heap.size, 0, none⟩) 1 1) 4 _ rfl
    exact bodyPost_ret (v := nodV 10 0 emptyB 0 (.slice (some ⟨w2.heap.size, 0, none⟩) 1 1)) (by simp [results, Tryz.results82, go_sem, e0, e1, e2, e3, e4]) rfl T4

end Go.Proofs.YtjeledllejlpcaaGreatDoor
