/- The small readers of statements. -/
import Derived.Test.YtbcflcnkhhkogaaGreatDoorZb16
import Derived.Test.YtbcflcnkhhkogaaGreatDoorZb17
set_option linter.unusedSimpArgs false
set_option linter.unusedVariables false
set_option maxRecDepth 10000

namespace Go.Proofs.YtbcflcnkhhkogaaGreatDoor
open Go.RowKit

set_option maxHeartbeats 2000000 in
theorem plain_any (len g : Nat) (k : Int) (st : PS) (w : World) (hS : St w g len st) :
    Calls Tryz.prog 148 #[.pointer (some ⟨g, 0, none⟩), .int .i64 k] w (Tree g len w (plainP len k st)) := by
  have hg : g < w.heap.size := hS.lt
  unfold plainP
  have HG := hide (fun W (x : Ext w W) => psign_any len g st ⟨#[59]⟩ W (hS.ext x))
  clear hS
  go_enter Tryz.func148, Tryz.ntmps148
  go_wp2_with (go_at_call 89; refine Calls.mono (unhide HG _ (Ext.alloc _ _)) ?_; rintro e w2 ⟨rfl, hs, hw⟩; have RD := hide (hw.row (Go.heap_alloc_new w _) (by omega)); have r0 := rowC (unhide RD) 0 rfl; have r1 := rowC (unhide RD) 1 rfl; have r2 := rowC (unhide RD) 2 rfl; have r3 := rowC (unhide RD) 3 rfl; have r4 := rowC (unhide RD) 4 rfl; have rz := rowF (unhide RD); have S3 := hide hs; have X3 := hide ((Gr.of (Ext.alloc w _)).trans hw); clear hw hs)
  exact bodyPost_ret (v := nodV k 0 emptyB 0 (.slice none 0 0)) (by simp [results, Tryz.results148, go_sem, r0, r1, r2, r3, r4]) rfl (tree_end (l := []) hg (unhide S3) (unhide X3) (Nat.zero_le _) (by simp [RepNL]))

set_option maxHeartbeats 4000000 in
theorem ofEx_any (len g : Nat) (ex : Rdr) (kd : Int) (st : PS) (w : World) (hR : Rs w g len st) (hex : ExIs g len 22 ex st w) :
    Calls Tryz.prog 150 #[.pointer (some ⟨g, 0, none⟩), .int .i64 kd] w (Tree g len w (ofExP len ex kd st)) := by
  have hg : g < w.heap.size := hR.st.lt
  unfold ofExP
  have HX := hide hex
  unfold ExIs at HX
  clear hex
  generalize ex st = q at HX
  obtain ⟨⟨k, o, s, n, l⟩, st3⟩ := q
  have HG := hide (fun W (x : St W g len st3) => psign_any len g st3 ⟨#[59]⟩ W x)
  have HR := hide hR
  clear hR
  go_enter Tryz.func150, Tryz.ntmps150
  go_wp2_with (first
    | (go_at_call 22; refine Calls.mono (unhide HX _ (Gr.of (Ext.alloc _ _)) ((unhide HR).alloc _)) ?_; rintro e w1 ⟨v, rfl, hr, hs, hw⟩; rw [RepN] at hr; obtain ⟨a, cap, rfl, hcap, hl⟩ := hr; have RB := hide (hw.row (Go.heap_alloc_new w _) (by omega)); have S1 := hide hs; have L1 := hide hl; have X1 := hide ((Gr.of (Ext.alloc _ _)).trans hw); have hlt1 : w.heap.size < w1.heap.size := (Array.getElem?_eq_some_iff.1 (unhide RB)).1; clear hw hs hl)
    | (go_at_call 89; refine Calls.mono (unhide HG _ (((unhide S1).alloc _).alloc _)) ?_; rintro e w2 ⟨rfl, hs, hw⟩; have RC := hide (hw.row ((Ext.alloc _ _).row ((Ext.alloc _ _).row (unhide RB))) (by omega)); have RI := hide (hw.row ((Ext.alloc _ _).row (Go.heap_alloc_new w1 _)) (by omega)); have RN := hide (hw.row (Go.heap_alloc_new (w1.alloc _) _) (by simp; omega)); have r0 := rowC (unhide RC) 0 rfl; have r1 := rowC (unhide RC) 1 rfl; have r2 := rowC (unhide RC) 2 rfl; have r3 := rowC (unhide RC) 3 rfl; have r4 := rowC (unhide RC) 4 rfl; have rz := rowF (unhide RC); have d0 := rowC (unhide RN) 0 rfl; have d1 := rowC (unhide RN) 1 rfl; have d2 := rowC (unhide RN) 2 rfl; have d3 := rowC (unhide RN) 3 rfl; have d4 := rowC (unhide RN) 4 rfl; simp only [size_alloc] at d0 d1 d2 d3 d4; have S2 := hide hs; have G2 := hide ((Gr.of ((Ext.alloc _ _).trans (Ext.alloc _ _))).trans hw); have X2 := hide ((unhide X1).trans (unhide G2)); have hlt2 : w1.heap.size < w2.heap.size := (Array.getElem?_eq_some_iff.1 (unhide RI)).1; clear hw hs))
  have L2 : RepNL w2 (fun b => w.heap.size < b ∧ b < w2.heap.size) l a := (unhide L1).gr (unhide G2) (by simp; omega) (by simp)
  have T2 := tree_end (l := [⟨k, o, s, n, l⟩]) hg (unhide S2) (unhide X2) (Nat.le_refl 1) (one_rep (F := fun b => w.heap.size < b ∧ b < w2.heap.size) (unhide RI) ⟨hlt1, hlt2⟩ hcap L2) (k := kd) (o := 0) (n := 0) (s := emptyB)
  exact bodyPost_ret (v := nodV kd 0 emptyB 0 (.slice (some ⟨w1.heap.size, 0, none⟩) 1 1)) (by simp [results, Tryz.results150, go_sem, r0, r1, r2, r3, r4]) rfl T2

set_option maxHeartbeats 4000000 in
theorem answer_any (len g : Nat) (ex : Rdr) (st : PS) (w : World) (hR : Rs w g len st) (hex : ExIs g len 22 ex st w) :
    Calls Tryz.prog 149 #[.pointer (some ⟨g, 0, none⟩)] w (Tree g len w (answerP len ex st)) := by
  have hg : g < w.heap.size := hR.st.lt
  unfold answerP
  have HS := hide (fun W (x : Ext w W) => isSign_any len g st ⟨#[59]⟩ W (hR.st.ext x))
  have HP := hide (fun W (x : Ext w W) => plain_any len g 7 st W (hR.st.ext x))
  have HO := hide (fun W (x : Ext w W) => ofEx_any len g ex 7 st W (hR.ext x) (fun W' x' h => hex W' ((Gr.of x).trans x') h))
  clear hR hex
  cases hb : st.isS ⟨#[59]⟩
  · rw [if_neg (by decide)]
    rw [hb] at HS
    generalize ofExP len ex 7 st = q at HO
    obtain ⟨⟨k, o, s, n, l⟩, st3⟩ := q
    go_enter Tryz.func149, Tryz.ntmps149
    go_wp2_with (first
      | (go_at_call 121; refine Calls.mono (unhide HS _ (Ext.alloc w _)) ?_; rintro e w1 ⟨rfl, hw⟩; have RB := hide (hw.row (Go.heap_alloc_new w _)); have X1 := hide ((Ext.alloc _ _).trans hw); have hlt1 : w.heap.size < w1.heap.size := (Array.getElem?_eq_some_iff.1 (unhide RB)).1; clear hw)
      | (go_at_call 150; refine Calls.mono (unhide HO _ (unhide X1)) ?_; rintro e w2 ⟨v, rfl, hr, hs, hw⟩; rw [RepN] at hr; obtain ⟨a, cap, rfl, hcap, hl⟩ := hr; have RD := hide (hw.row (unhide RB) (by omega)); have r0 := rowC (unhide RD) 0 rfl; have r1 := rowC (unhide RD) 1 rfl; have r2 := rowC (unhide RD) 2 rfl; have r3 := rowC (unhide RD) 3 rfl; have r4 := rowC (unhide RD) 4 rfl; have rz := rowF (unhide RD); have S3 := hide hs; have L3 := hide hl; have X3 := hide ((Gr.of (unhide X1)).trans hw); clear hw hs hl))
    exact bodyPost_ret (v := nodV k o s n (.slice a l.length cap)) (by simp [results, Tryz.results149, go_sem, r0, r1, r2, r3, r4]) rfl (tree_end hg (unhide S3) (unhide X3) hcap ((unhide L3).gr (Gr.refl g _) (by omega) (by omega)) (k := k) (o := o) (n := n) (s := s))
  · rw [if_pos rfl]
    rw [hb] at HS
    generalize plainP len 7 st = q at HP
    obtain ⟨⟨k, o, s, n, l⟩, st3⟩ := q
    go_enter Tryz.func149, Tryz.ntmps149
    go_wp2_with (first
      | (go_at_call 121; refine Calls.mono (unhide HS _ (Ext.alloc w _)) ?_; rintro e w1 ⟨rfl, hw⟩; have RB := hide (hw.row (Go.heap_alloc_new w _)); have X1 := hide ((Ext.alloc _ _).trans hw); have hlt1 : w.heap.size < w1.heap.size := (Array.getElem?_eq_some_iff.1 (unhide RB)).1; clear hw)
      | (go_at_call 148; refine Calls.mono (unhide HP _ (unhide X1)) ?_; rintro e w2 ⟨v, rfl, hr, hs, hw⟩; rw [RepN] at hr; obtain ⟨a, cap, rfl, hcap, hl⟩ := hr; have RD := hide (hw.row (unhide RB) (by omega)); have r0 := rowC (unhide RD) 0 rfl; have r1 := rowC (unhide RD) 1 rfl; have r2 := rowC (unhide RD) 2 rfl; have r3 := rowC (unhide RD) 3 rfl; have r4 := rowC (unhide RD) 4 rfl; have rz := rowF (unhide RD); have S3 := hide hs; have L3 := hide hl; have X3 := hide ((Gr.of (unhide X1)).trans hw); clear hw hs hl))
    exact bodyPost_ret (v := nodV k o s n (.slice a l.length cap)) (by simp [results, Tryz.results149, go_sem, r0, r1, r2, r3, r4]) rfl (tree_end hg (unhide S3) (unhide X3) hcap ((unhide L3).gr (Gr.refl g _) (by omega) (by omega)) (k := k) (o := o) (n := n) (s := s))

set_option maxHeartbeats 4000000 in
theorem named_any (len g : Nat) (ex : Rdr) (kd : Int) (st : PS) (w : World) (hR : Rs w g len st) (hex : ExIs g len 22 ex ((st.name len).2.sign len ⟨#[61]⟩) w) :
    Calls Tryz.prog 145 #[.pointer (some ⟨g, 0, none⟩), .int .i64 kd] w (Tree g len w (namedP len ex kd st)) := by
  have hg : g < w.heap.size := hR.st.lt
  unfold namedP
  have HN := hide (fun W (x : St W g len st) => name_p len g st W x)
  have HG := hide (fun W (x : St W g len (st.name len).2) => psign_any len g (st.name len).2 ⟨#[61]⟩ W x)
  have HO := hide (fun W (x : Gr g w W) (y : Rs W g len ((st.name len).2.sign len ⟨#[61]⟩)) => ofEx_any len g ex kd _ W y (fun W' x' h => hex W' (x.trans x') h))
  have HR := hide hR
  clear hR hex
  have hq : (ofExP len ex kd ((st.name len).2.sign len ⟨#[61]⟩)).1 = ⟨kd, 0, emptyB, 0, (ofExP len ex kd ((st.name len).2.sign len ⟨#[61]⟩)).1.l⟩ := rfl
  generalize (st.name len).1 = nm at HN ⊢
  generalize ofExP len ex kd ((st.name len).2.sign len ⟨#[61]⟩) = q at HO hq ⊢
  obtain ⟨⟨k, o, s, n, l⟩, st3⟩ := q
  injection hq with e1 e2 e3 e4 e5
  subst e1 e2 e3 e4
  clear e5
  go_enter Tryz.func145, Tryz.ntmps145
  go_wp2_with (first
    | (go_at_call 88; refine Calls.mono (unhide HN _ ((unhide HR).st.alloc _)) ?_; rintro e w1 ⟨rfl, hs, hw⟩; have RB := hide (hw.row (Go.heap_alloc_new w _) (by omega)); have S1 := hide hs; have X1 := hide ((Gr.of (Ext.alloc _ _)).trans hw); clear hw hs)
    | (go_at_call 89; refine Calls.mono (unhide HG _ (unhide S1)) ?_; rintro e w2 ⟨rfl, hs, hw⟩; have RC := hide (hw.row (unhide RB) (by omega)); have S2 := hide hs; have X2 := hide ((unhide X1).trans hw); have hlt2 : w.heap.size < w2.heap.size := (Array.getElem?_eq_some_iff.1 (unhide RC)).1; clear hw hs)
    | (go_at_call 150; refine Calls.mono (unhide HO _ (unhide X2) ((unhide HR).go (unhide X2) (unhide S2))) ?_; rintro e w3 ⟨v, rfl, hr, hs, hw⟩; rw [RepN] at hr; obtain ⟨a, cap, rfl, hcap, hl⟩ := hr; have RD := hide (hw.row (unhide RC) (by omega)); have r0 := rowC (unhide RD) 0 rfl; have r1 := rowC (unhide RD) 1 rfl; have r2 := rowC (unhide RD) 2 rfl; have r3 := rowC (unhide RD) 3 rfl; have r4 := rowC (unhide RD) 4 rfl; have rz := rowF (unhide RD); have S3 := hide hs; have L3 := hide hl; have X3 := hide ((unhide X2).trans hw); have hlt3 : w.heap.size < w3.heap.size := (Array.getElem?_eq_some_iff.1 (unhide RD)).1; clear hw hs hl))
  have T3 := tree_end hg (unhide S3) (unhide X3) hcap ((unhide L3).gr (Gr.refl g _) (by omega) (by omega)) (k := k) (o := 0) (n := 0) (s := nm)
  have e0 := set5_past (unhide RD) k 0 nm 0 (.slice a l.length cap) 0 _ rfl
  have e1 := set5_past (unhide RD) k 0 nm 0 (.slice a l.length cap) 1 _ rfl
  have e2 := set5_past (unhide RD) k 0 nm 0 (.slice a l.length cap) 2 _ rfl
  have e3 := set5_past (unhide RD) k 0 nm 0 (.slice a l.length cap) 3 _ rfl
  have e4 := set5_past (unhide RD) k 0 nm 0 (.slice a l.length cap) 4 _ rfl
  exact bodyPost_ret (v := nodV k 0 nm 0 (.slice a l.length cap)) (by simp [results, Tryz.results145, go_sem, e0, e1, e2, e3, e4]) rfl (T3.gr hg (Gr.of (Ext.alloc _ _)) (((unhide S3).set5 hg _ _ _ _ _).alloc _))

set_option maxHeartbeats 1000000 in
theorem isSet_any (len g : Nat) (st : PS) (w : World) (hS : St w g len st) :
    Calls Tryz.prog 146 #[.pointer (some ⟨g, 0, none⟩)] w fun e w' => e = .returned (.bool st.isSet) ∧ Ext w w' := by
  have HA := hide (fun W (x : Ext w W) => ahead_any len g st 0 0 rfl W (hS.ext x))
  have HB := hide (fun W (x : Ext w W) => ahead_any len g st 1 1 rfl W (hS.ext x))
  unfold PS.isSet isT
  clear hS
  generalize hdT st.ts 0 = y at *
  generalize hdT st.ts 1 = z at *
  cases hk : (y.k == 1)
  · go_enter Tryz.func146, Tryz.ntmps146
    go_wp2_with (go_at_call 117; refine Calls.mono (unhide HA _ (Ext.refl _)) ?_; rintro e w1 ⟨rfl, hw⟩; have X := hide hw; clear hw)
    go_ret
    exact ⟨rfl, unhide X⟩
  · go_enter Tryz.func146, Tryz.ntmps146
    go_wp2_with (first
      | (have G := unhide Y; clear G; go_at_call 144; refine Calls.mono (is_any _ _ _ _ _ _ _) ?_; rintro e w3 ⟨rfl, hw⟩; have Z := hide ((unhide Y).trans hw); clear hw)
      | (have G := unhide X; clear G; go_at_call 117; refine Calls.mono (unhide HB _ (unhide X)) ?_; rintro e w2 ⟨rfl, hw⟩; have Y := hide ((unhide X).trans hw); clear hw)
      | (go_at_call 117; refine Calls.mono (unhide HA _ (Ext.refl _)) ?_; rintro e w1 ⟨rfl, hw⟩; have X := hide hw; clear hw))
    go_ret
    exact ⟨by rw [Bool.true_and, show (⟨#[61]⟩ : ByteArray).toList = [61] by simp]; rfl, unhide Z⟩

end Go.Proofs.YtbcflcnkhhkogaaGreatDoor
