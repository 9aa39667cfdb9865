/- Statements. -/
import Derived.Test.YtlgdjeiendmniaaGreatDoorZg22
set_option linter.unusedSimpArgs false
set_option linter.unusedVariables false
set_option maxRecDepth 10000

namespace Go.Proofs.YtlgdjeiendmniaaGreatDoor
open Go.RowKit

set_option maxHeartbeats 8000000 in
theorem stm_any (len g : Nat) (ex bl ch : Rdr) (st : PS) (w : World) (hR : Rs w g len st) (hsh : Shorter ex) (hex : ∀ s : PS, s.ts.length ≤ st.ts.length → ExIs g len 147 ex s w) (hbl : ∀ s : PS, s.ts.length < st.ts.length → ExIs g len 79 bl s w) (hch : ∀ s : PS, s.ts.length < st.ts.length → ExIs g len 146 ch s w) :
    Calls Tryz.prog 117 #[.pointer (some ⟨g, 0, none⟩)] w (Tree g len w (stmP len ex bl ch st)) := by
  have hg : g < w.heap.size := hR.st.lt
  unfold stmP
  have HR := hide hR
  have X : Hd (Gr g (w.alloc (.cells #[.int .i64 0, .int .i64 0, .string ⟨#[]⟩, .int .i64 0, .slice none 0 0] 60)) (w.alloc (.cells #[.int .i64 0, .int .i64 0, .string ⟨#[]⟩, .int .i64 0, .slice none 0 0] 60))) := Gr.refl _ _
  have SX : Hd (St (w.alloc (.cells #[.int .i64 0, .int .i64 0, .string ⟨#[]⟩, .int .i64 0, .slice none 0 0] 60)) g len st) := hR.st.alloc _
  clear hR
  cases qlet : st.isW ⟨#[108, 101, 116]⟩
  · rw [if_neg (by decide)]
    cases bs : st.isSet
    · rw [if_neg (by decide)]
      cases qif : st.isW ⟨#[105, 102]⟩
      · rw [if_neg (by decide)]
        cases qwhile : st.isW ⟨#[119, 104, 105, 108, 101]⟩
        · rw [if_neg (by decide)]
          cases qbreak : st.isW ⟨#[98, 114, 101, 97, 107]⟩
          · rw [if_neg (by decide)]
            cases qcontinue : st.isW ⟨#[99, 111, 110, 116, 105, 110, 117, 101]⟩
            · rw [if_neg (by decide)]
              cases qreturn : st.isW ⟨#[114, 101, 116, 117, 114, 110]⟩
              · rw [if_neg (by decide)]
                cases qprint : st.isW ⟨#[112, 114, 105, 110, 116]⟩
                · rw [if_neg (by decide)]
                  have HX := hide (fun W (x : Gr g w W) (y : Rs W g len st) => ofEx_any len g ex 9 st W y (fun W2 x2 h => hex _ (Nat.le_refl _) W2 (x.trans x2) h))
                  skip
                  clear hex hbl hch hsh
                  generalize ofExP len ex 9 st = q at HX
                  obtain ⟨⟨k, o, s, n, l⟩, st3⟩ := q
                  go_enter Tryz.func117, Tryz.ntmps117
                  go_wp2_with (first
                    | (go_at_call 109; refine Calls.mono (takeW_no len g st _ _ (by assumption) (unhide SX)) ?_; rintro e w1 ⟨rfl, hs, hw⟩; replace X := hide ((unhide X).trans hw); replace SX := hide hs; clear hw hs)
                    | (go_at_call 145; refine Calls.mono (isSet_any len g st _ (unhide SX)) ?_; rintro e w1 ⟨he, hw⟩; rw [bs] at he; obtain rfl := he; replace X := hide ((unhide X).trans (Gr.of hw)); replace SX := hide ((unhide SX).ext hw); clear hw)
                    | (go_at_call 150; refine Calls.mono (unhide HX _ ((Gr.of (Ext.alloc w _)).trans (unhide X)) ((unhide HR).go ((Gr.of (Ext.alloc w _)).trans (unhide X)) (unhide SX))) ?_; rintro e w2 ⟨v, rfl, hr, hs, hw⟩; rw [RepN] at hr; obtain ⟨a, cap, rfl, hcap, hl⟩ := hr; have hlt := Nat.lt_of_lt_of_le (Nat.lt_succ_self w.heap.size) (Nat.le_trans (Nat.le_of_eq (size_alloc w _).symm) (unhide X).size); have RD := hide (hw.row ((unhide X).row (Go.heap_alloc_new w _) (by omega)) (by omega)); have r0 := rowC (unhide RD) 0 rfl; have r1 := rowC (unhide RD) 1 rfl; have r2 := rowC (unhide RD) 2 rfl; have r3 := rowC (unhide RD) 3 rfl; have r4 := rowC (unhide RD) 4 rfl; have rz := rowF (unhide RD); have S3 := hide hs; have L3 := hide hl; have X3 := hide (((Gr.of (Ext.alloc w _)).trans (unhide X)).trans hw); clear hw hs hl))
                  exact bodyPost_ret (v := nodV k o s n (.slice a l.length cap)) (by simp [results, Tryz.results117, go_sem, r0, r1, r2, r3, r4]) rfl (tree_end hg (unhide S3) (unhide X3) hcap ((unhide L3).gr (Gr.refl g _) (by omega) (by omega)) (k := k) (o := o) (n := n) (s := s))
                · rw [if_pos rfl]
                  have HX := hide (fun W (x : Gr g w W) (y : Rs W g len st.next) => ofEx_any len g ex 8 st.next W y (fun W2 x2 h => hex _ (next_le _) W2 (x.trans x2) h))
                  skip
                  clear hex hbl hch hsh
                  generalize ofExP len ex 8 st.next = q at HX
                  obtain ⟨⟨k, o, s, n, l⟩, st3⟩ := q
                  go_enter Tryz.func117, Tryz.ntmps117
                  go_wp2_with (first
                    | (go_at_call 109; refine Calls.mono (takeW_no len g st _ _ (by assumption) (unhide SX)) ?_; rintro e w1 ⟨rfl, hs, hw⟩; replace X := hide ((unhide X).trans hw); replace SX := hide hs; clear hw hs)
                    | (go_at_call 145; refine Calls.mono (isSet_any len g st _ (unhide SX)) ?_; rintro e w1 ⟨he, hw⟩; rw [bs] at he; obtain rfl := he; replace X := hide ((unhide X).trans (Gr.of hw)); replace SX := hide ((unhide SX).ext hw); clear hw)
                    | (go_at_call 109; refine Calls.mono (takeW_yes len g st _ _ (by assumption) (unhide SX)) ?_; rintro e w1 ⟨rfl, hs, hw⟩; replace X := hide ((unhide X).trans hw); have SY := hide hs; clear hw hs)
                    | (go_at_call 150; refine Calls.mono (unhide HX _ ((Gr.of (Ext.alloc w _)).trans (unhide X)) ((unhide HR).go ((Gr.of (Ext.alloc w _)).trans (unhide X)) (unhide SY))) ?_; rintro e w2 ⟨v, rfl, hr, hs, hw⟩; rw [RepN] at hr; obtain ⟨a, cap, rfl, hcap, hl⟩ := hr; have hlt := Nat.lt_of_lt_of_le (Nat.lt_succ_self w.heap.size) (Nat.le_trans (Nat.le_of_eq (size_alloc w _).symm) (unhide X).size); have RD := hide (hw.row ((unhide X).row (Go.heap_alloc_new w _) (by omega)) (by omega)); have r0 := rowC (unhide RD) 0 rfl; have r1 := rowC (unhide RD) 1 rfl; have r2 := rowC (unhide RD) 2 rfl; have r3 := rowC (unhide RD) 3 rfl; have r4 := rowC (unhide RD) 4 rfl; have rz := rowF (unhide RD); have S3 := hide hs; have L3 := hide hl; have X3 := hide (((Gr.of (Ext.alloc w _)).trans (unhide X)).trans hw); clear hw hs hl))
                  exact bodyPost_ret (v := nodV k o s n (.slice a l.length cap)) (by simp [results, Tryz.results117, go_sem, r0, r1, r2, r3, r4]) rfl (tree_end hg (unhide S3) (unhide X3) hcap ((unhide L3).gr (Gr.refl g _) (by omega) (by omega)) (k := k) (o := o) (n := n) (s := s))
              · rw [if_pos rfl]
                have HX := hide (fun W (x : Gr g w W) (y : Rs W g len st.next) => answer_any len g ex st.next W y (fun W2 x2 h => hex _ (next_le _) W2 (x.trans x2) h))
                skip
                clear hex hbl hch hsh
                generalize answerP len ex st.next = q at HX
                obtain ⟨⟨k, o, s, n, l⟩, st3⟩ := q
                go_enter Tryz.func117, Tryz.ntmps117
                go_wp2_with (first
                  | (go_at_call 109; refine Calls.mono (takeW_no len g st _ _ (by assumption) (unhide SX)) ?_; rintro e w1 ⟨rfl, hs, hw⟩; replace X := hide ((unhide X).trans hw); replace SX := hide hs; clear hw hs)
                  | (go_at_call 145; refine Calls.mono (isSet_any len g st _ (unhide SX)) ?_; rintro e w1 ⟨he, hw⟩; rw [bs] at he; obtain rfl := he; replace X := hide ((unhide X).trans (Gr.of hw)); replace SX := hide ((unhide SX).ext hw); clear hw)
                  | (go_at_call 109; refine Calls.mono (takeW_yes len g st _ _ (by assumption) (unhide SX)) ?_; rintro e w1 ⟨rfl, hs, hw⟩; replace X := hide ((unhide X).trans hw); have SY := hide hs; clear hw hs)
                  | (go_at_call 149; refine Calls.mono (unhide HX _ ((Gr.of (Ext.alloc w _)).trans (unhide X)) ((unhide HR).go ((Gr.of (Ext.alloc w _)).trans (unhide X)) (unhide SY))) ?_; rintro e w2 ⟨v, rfl, hr, hs, hw⟩; rw [RepN] at hr; obtain ⟨a, cap, rfl, hcap, hl⟩ := hr; have hlt := Nat.lt_of_lt_of_le (Nat.lt_succ_self w.heap.size) (Nat.le_trans (Nat.le_of_eq (size_alloc w _).symm) (unhide X).size); have RD := hide (hw.row ((unhide X).row (Go.heap_alloc_new w _) (by omega)) (by omega)); have r0 := rowC (unhide RD) 0 rfl; have r1 := rowC (unhide RD) 1 rfl; have r2 := rowC (unhide RD) 2 rfl; have r3 := rowC (unhide RD) 3 rfl; have r4 := rowC (unhide RD) 4 rfl; have rz := rowF (unhide RD); have S3 := hide hs; have L3 := hide hl; have X3 := hide (((Gr.of (Ext.alloc w _)).trans (unhide X)).trans hw); clear hw hs hl))
                exact bodyPost_ret (v := nodV k o s n (.slice a l.length cap)) (by simp [results, Tryz.results117, go_sem, r0, r1, r2, r3, r4]) rfl (tree_end hg (unhide S3) (unhide X3) hcap ((unhide L3).gr (Gr.refl g _) (by omega) (by omega)) (k := k) (o := o) (n := n) (s := s))
            · rw [if_pos rfl]
              have HX := hide (fun W (x : Gr g w W) (y : Rs W g len st.next) => plain_any len g 6 st.next W y.st)
              skip
              clear hex hbl hch hsh
              generalize plainP len 6 st.next = q at HX
              obtain ⟨⟨k, o, s, n, l⟩, st3⟩ := q
              go_enter Tryz.func117, Tryz.ntmps117
              go_wp2_with (first
                | (go_at_call 109; refine Calls.mono (takeW_no len g st _ _ (by assumption) (unhide SX)) ?_; rintro e w1 ⟨rfl, hs, hw⟩; replace X := hide ((unhide X).trans hw); replace SX := hide hs; clear hw hs)
                | (go_at_call 145; refine Calls.mono (isSet_any len g st _ (unhide SX)) ?_; rintro e w1 ⟨he, hw⟩; rw [bs] at he; obtain rfl := he; replace X := hide ((unhide X).trans (Gr.of hw)); replace SX := hide ((unhide SX).ext hw); clear hw)
                | (go_at_call 109; refine Calls.mono (takeW_yes len g st _ _ (by assumption) (unhide SX)) ?_; rintro e w1 ⟨rfl, hs, hw⟩; replace X := hide ((unhide X).trans hw); have SY := hide hs; clear hw hs)
                | (go_at_call 148; refine Calls.mono (unhide HX _ ((Gr.of (Ext.alloc w _)).trans (unhide X)) ((unhide HR).go ((Gr.of (Ext.alloc w _)).trans (unhide X)) (unhide SY))) ?_; rintro e w2 ⟨v, rfl, hr, hs, hw⟩; rw [RepN] at hr; obtain ⟨a, cap, rfl, hcap, hl⟩ := hr; have hlt := Nat.lt_of_lt_of_le (Nat.lt_succ_self w.heap.size) (Nat.le_trans (Nat.le_of_eq (size_alloc w _).symm) (unhide X).size); have RD := hide (hw.row ((unhide X).row (Go.heap_alloc_new w _) (by omega)) (by omega)); have r0 := rowC (unhide RD) 0 rfl; have r1 := rowC (unhide RD) 1 rfl; have r2 := rowC (unhide RD) 2 rfl; have r3 := rowC (unhide RD) 3 rfl; have r4 := rowC (unhide RD) 4 rfl; have rz := rowF (unhide RD); have S3 := hide hs; have L3 := hide hl; have X3 := hide (((Gr.of (Ext.alloc w _)).trans (unhide X)).trans hw); clear hw hs hl))
              exact bodyPost_ret (v := nodV k o s n (.slice a l.length cap)) (by simp [results, Tryz.results117, go_sem, r0, r1, r2, r3, r4]) rfl (tree_end hg (unhide S3) (unhide X3) hcap ((unhide L3).gr (Gr.refl g _) (by omega) (by omega)) (k := k) (o := o) (n := n) (s := s))
          · rw [if_pos rfl]
            have HX := hide (fun W (x : Gr g w W) (y : Rs W g len st.next) => plain_any len g 5 st.next W y.st)
            skip
            clear hex hbl hch hsh
            generalize plainP len 5 st.next = q at HX
            obtain ⟨⟨k, o, s, n, l⟩, st3⟩ := q
            go_enter Tryz.func117, Tryz.ntmps117
            go_wp2_with (first
              | (go_at_call 109; refine Calls.mono (takeW_no len g st _ _ (by assumption) (unhide SX)) ?_; rintro e w1 ⟨rfl, hs, hw⟩; replace X := hide ((unhide X).trans hw); replace SX := hide hs; clear hw hs)
              | (go_at_call 145; refine Calls.mono (isSet_any len g st _ (unhide SX)) ?_; rintro e w1 ⟨he, hw⟩; rw [bs] at he; obtain rfl := he; replace X := hide ((unhide X).trans (Gr.of hw)); replace SX := hide ((unhide SX).ext hw); clear hw)
              | (go_at_call 109; refine Calls.mono (takeW_yes len g st _ _ (by assumption) (unhide SX)) ?_; rintro e w1 ⟨rfl, hs, hw⟩; replace X := hide ((unhide X).trans hw); have SY := hide hs; clear hw hs)
              | (go_at_call 148; refine Calls.mono (unhide HX _ ((Gr.of (Ext.alloc w _)).trans (unhide X)) ((unhide HR).go ((Gr.of (Ext.alloc w _)).trans (unhide X)) (unhide SY))) ?_; rintro e w2 ⟨v, rfl, hr, hs, hw⟩; rw [RepN] at hr; obtain ⟨a, cap, rfl, hcap, hl⟩ := hr; have hlt := Nat.lt_of_lt_of_le (Nat.lt_succ_self w.heap.size) (Nat.le_trans (Nat.le_of_eq (size_alloc w _).symm) (unhide X).size); have RD := hide (hw.row ((unhide X).row (Go.heap_alloc_new w _) (by omega)) (by omega)); have r0 := rowC (unhide RD) 0 rfl; have r1 := rowC (unhide RD) 1 rfl; have r2 := rowC (unhide RD) 2 rfl; have r3 := rowC (unhide RD) 3 rfl; have r4 := rowC (unhide RD) 4 rfl; have rz := rowF (unhide RD); have S3 := hide hs; have L3 := hide hl; have X3 := hide (((Gr.of (Ext.alloc w _)).trans (unhide X)).trans hw); clear hw hs hl))
            exact bodyPost_ret (v := nodV k o s n (.slice a l.length cap)) (by simp [results, Tryz.results117, go_sem, r0, r1, r2, r3, r4]) rfl (tree_end hg (unhide S3) (unhide X3) hcap ((unhide L3).gr (Gr.refl g _) (by omega) (by omega)) (k := k) (o := o) (n := n) (s := s))
        · rw [if_pos rfl]
          have HX := hide (hex st.next (next_le _))
          unfold ExIs at HX
          have HB := hide (hbl (ex st.next).2 (Nat.lt_of_le_of_lt (hsh _) (next_lt_of (isW_ne qwhile))))
          unfold ExIs at HB
          clear hex hbl hch hsh
          unfold whiP
          generalize ex st.next = q at HX HB
          obtain ⟨⟨k, o, s, n, l⟩, st2⟩ := q
          generalize bl st2 = q2 at HB
          obtain ⟨⟨k2, o2, s2, n2, l2⟩, st3⟩ := q2
          go_enter Tryz.func117, Tryz.ntmps117
          go_wp2_with (first
            | (go_at_call 109; refine Calls.mono (takeW_no len g st _ _ (by assumption) (unhide SX)) ?_; rintro e w1 ⟨rfl, hs, hw⟩; replace X := hide ((unhide X).trans hw); replace SX := hide hs; clear hw hs)
            | (go_at_call 145; refine Calls.mono (isSet_any len g st _ (unhide SX)) ?_; rintro e w1 ⟨he, hw⟩; rw [bs] at he; obtain rfl := he; replace X := hide ((unhide X).trans (Gr.of hw)); replace SX := hide ((unhide SX).ext hw); clear hw)
            | (go_at_call 109; refine Calls.mono (takeW_yes len g st _ _ (by assumption) (unhide SX)) ?_; rintro e w1 ⟨rfl, hs, hw⟩; replace X := hide ((unhide X).trans hw); have SY := hide hs; clear hw hs)
            | (go_at_call 147; refine Calls.mono (unhide HX _ ((Gr.of (Ext.alloc w _)).trans (unhide X)) ((unhide HR).go ((Gr.of (Ext.alloc w _)).trans (unhide X)) (unhide SY))) ?_; rintro e w2 ⟨v, rfl, hr, hs, hw⟩; rw [RepN] at hr; obtain ⟨a, cap, rfl, hcap, hl⟩ := hr; have hlt := Nat.lt_of_lt_of_le (Nat.lt_succ_self w.heap.size) (Nat.le_trans (Nat.le_of_eq (size_alloc w _).symm) (unhide X).size); have RD := hide (hw.row ((unhide X).row (Go.heap_alloc_new w _) (by omega)) (by omega)); have S2 := hide hs; have L2 := hide hl; have X2 := hide (((Gr.of (Ext.alloc w _)).trans (unhide X)).trans hw); have hlt2 : w.heap.size < w2.heap.size := (Array.getElem?_eq_some_iff.1 (unhide RD)).1; clear hw hs hl)
            | (go_at_call 79; refine Calls.mono (unhide HB _ (unhide X2) ((unhide HR).go (unhide X2) (unhide S2))) ?_; rintro e w3 ⟨v, rfl, hr, hs, hw⟩; rw [RepN] at hr; obtain ⟨a2, cap2, rfl, hcap2, hl⟩ := hr; have RE := hide (hw.row (unhide RD) (by omega)); have r0 := rowC (unhide RE) 0 rfl; have r1 := rowC (unhide RE) 1 rfl; have r2 := rowC (unhide RE) 2 rfl; have r3 := rowC (unhide RE) 3 rfl; have r4 := rowC (unhide RE) 4 rfl; have rz := rowF (unhide RE); have S3 := hide hs; have L3 := hide hl; have G3 := hide hw; have X3 := hide ((unhide X2).trans hw); have hlt3 : w.heap.size < w3.heap.size := (Array.getElem?_eq_some_iff.1 (unhide RE)).1; clear hw hs hl))
          obtain ⟨ob, hob⟩ : ∃ ob, ob = (Obj.cells #[.int .i64 k, .int .i64 o, .string s, .int .i64 n, .slice a l.length cap, .int .i64 k2, .int .i64 o2, .string s2, .int .i64 n2, .slice a2 l2.length cap2] 60 (0, 0)) := ⟨_, rfl⟩
          have L4 : RepNL (w3.alloc ob) (fun b => w.heap.size < b ∧ b < (w3.alloc ob).heap.size) l a := (unhide L2).gr ((unhide G3).alloc _) (by omega) (by omega)
          have L5 : RepNL (w3.alloc ob) (fun b => w.heap.size < b ∧ b < (w3.alloc ob).heap.size) l2 a2 := (unhide L3).gr (Gr.of (g := g) (Ext.alloc _ _)) (by omega) (by omega)
          have hrow := Go.heap_alloc_new w3 ob
          rw [hob] at L4 L5 hrow
          have T4 := tree_end_alloc (l := [⟨k, o, s, n, l⟩, ⟨k2, o2, s2, n2, l2⟩]) hg hlt3 (unhide S3) (unhide X3) _ (Nat.le_refl 2) (pair_rep hrow ⟨hlt3, by simp⟩ hcap hcap2 L4 L5) (k := 4) (o := 0) (n := 0) (s := emptyB)
          have e0 := set5_past (unhide RE) 4 0 emptyB 0 (.slice (some ⟨w3.heap.size, 0, none⟩) 2 2) 0 _ rfl
          have e1 := set5_past (unhide RE) 4 0 emptyB 0 (.slice (some ⟨w3.heap.size, 0, none⟩) 2 2) 1 _ rfl
          have e2 := set5_past (unhide RE) 4 0 emptyB 0 (.slice (some ⟨w3.heap.size, 0, none⟩) 2 2) 2 _ rfl
          have e3 := set5_past (unhide RE) 4 0 emptyB 0 (.slice (some ⟨w3.heap.size, 0, none⟩) 2 2) 3 _ rfl
          have e4 := set5_past (unhide RE) 4 0 emptyB 0 (.slice (some ⟨w3.heap.size, 0, none⟩) 2 2) 4 _ rfl
          exact bodyPost_ret (v := nodV 4 0 emptyB 0 (.slice (some ⟨w3.heap.size, 0, none⟩) 2 2)) (by simp [results, Tryz.results117, go_sem, e0, e1, e2, e3, e4]) rfl T4
      · rw [if_pos rfl]
        have HX := hide (hch st.next (next_lt_of (isW_ne qif)))
        unfold ExIs at HX
        clear hex hbl hch hsh
        generalize ch st.next = q at HX
        obtain ⟨⟨k, o, s, n, l⟩, st3⟩ := q
        go_enter Tryz.func117, Tryz.ntmps117
        go_wp2_with (first
          | (go_at_call 109; refine Calls.mono (takeW_no len g st _ _ (by assumption) (unhide SX)) ?_; rintro e w1 ⟨rfl, hs, hw⟩; replace X := hide ((unhide X).trans hw); replace SX := hide hs; clear hw hs)
          | (go_at_call 145; refine Calls.mono (isSet_any len g st _ (unhide SX)) ?_; rintro e w1 ⟨he, hw⟩; rw [bs] at he; obtain rfl := he; replace X := hide ((unhide X).trans (Gr.of hw)); replace SX := hide ((unhide SX).ext hw); clear hw)
          | (go_at_call 109; refine Calls.mono (takeW_yes len g st _ _ (by assumption) (unhide SX)) ?_; rintro e w1 ⟨rfl, hs, hw⟩; replace X := hide ((unhide X).trans hw); have SY := hide hs; clear hw hs)
          | (go_at_call 146; refine Calls.mono (unhide HX _ ((Gr.of (Ext.alloc w _)).trans (unhide X)) ((unhide HR).go ((Gr.of (Ext.alloc w _)).trans (unhide X)) (unhide SY))) ?_; rintro e w2 ⟨v, rfl, hr, hs, hw⟩; rw [RepN] at hr; obtain ⟨a, cap, rfl, hcap, hl⟩ := hr; have hlt := Nat.lt_of_lt_of_le (Nat.lt_succ_self w.heap.size) (Nat.le_trans (Nat.le_of_eq (size_alloc w _).symm) (unhide X).size); have RD := hide (hw.row ((unhide X).row (Go.heap_alloc_new w _) (by omega)) (by omega)); have r0 := rowC (unhide RD) 0 rfl; have r1 := rowC (unhide RD) 1 rfl; have r2 := rowC (unhide RD) 2 rfl; have r3 := rowC (unhide RD) 3 rfl; have r4 := rowC (unhide RD) 4 rfl; have rz := rowF (unhide RD); have S3 := hide hs; have L3 := hide hl; have X3 := hide (((Gr.of (Ext.alloc w _)).trans (unhide X)).trans hw); clear hw hs hl))
        exact bodyPost_ret (v := nodV k o s n (.slice a l.length cap)) (by simp [results, Tryz.results117, go_sem, r0, r1, r2, r3, r4]) rfl (tree_end hg (unhide S3) (unhide X3) hcap ((unhide L3).gr (Gr.refl g _) (by omega) (by omega)) (k := k) (o := o) (n := n) (s := s))
    · rw [if_pos rfl]
      have HX := hide (fun W (x : Gr g w W) (y : Rs W g len st) => named_any len g ex 2 st W y (fun W2 x2 h => hex _ (Nat.le_trans (psign_le _ _ _) (name_le _ _)) W2 (x.trans x2) h))
      skip
      clear hex hbl hch hsh
      generalize namedP len ex 2 st = q at HX
      obtain ⟨⟨k, o, s, n, l⟩, st3⟩ := q
      go_enter Tryz.func117, Tryz.ntmps117
      go_wp2_with (first
        | (go_at_call 109; refine Calls.mono (takeW_no len g st _ _ (by assumption) (unhide SX)) ?_; rintro e w1 ⟨rfl, hs, hw⟩; replace X := hide ((unhide X).trans hw); replace SX := hide hs; clear hw hs)
        | (go_at_call 145; refine Calls.mono (isSet_any len g st _ (unhide SX)) ?_; rintro e w1 ⟨he, hw⟩; rw [bs] at he; obtain rfl := he; replace X := hide ((unhide X).trans (Gr.of hw)); have SY := hide ((unhide SX).ext hw); clear hw)
        | (go_at_call 144; refine Calls.mono (unhide HX _ ((Gr.of (Ext.alloc w _)).trans (unhide X)) ((unhide HR).go ((Gr.of (Ext.alloc w _)).trans (unhide X)) (unhide SY))) ?_; rintro e w2 ⟨v, rfl, hr, hs, hw⟩; rw [RepN] at hr; obtain ⟨a, cap, rfl, hcap, hl⟩ := hr; have hlt := Nat.lt_of_lt_of_le (Nat.lt_succ_self w.heap.size) (Nat.le_trans (Nat.le_of_eq (size_alloc w _).symm) (unhide X).size); have RD := hide (hw.row ((unhide X).row (Go.heap_alloc_new w _) (by omega)) (by omega)); have r0 := rowC (unhide RD) 0 rfl; have r1 := rowC (unhide RD) 1 rfl; have r2 := rowC (unhide RD) 2 rfl; have r3 := rowC (unhide RD) 3 rfl; have r4 := rowC (unhide RD) 4 rfl; have rz := rowF (unhide RD); have S3 := hide hs; have L3 := hide hl; have X3 := hide (((Gr.of (Ext.alloc w _)).trans (unhide X)).trans hw); clear hw hs hl))
      exact bodyPost_ret (v := nodV k o s n (.slice a l.length cap)) (by simp [results, Tryz.results117, go_sem, r0, r1, r2, r3, r4]) rfl (tree_end hg (unhide S3) (unhide X3) hcap ((unhide L3).gr (Gr.refl g _) (by omega) (by omega)) (k := k) (o := o) (n := n) (s := s))
  · rw [if_pos rfl]
    have HX := hide (fun W (x : Gr g w W) (y : Rs W g len st.next) => named_any len g ex 1 st.next W y (fun W2 x2 h => hex _ (Nat.le_trans (psign_le _ _ _) (Nat.le_trans (name_le _ _) (next_le _))) W2 (x.trans x2) h))
    skip
    clear hex hbl hch hsh
    generalize namedP len ex 1 st.next = q at HX
    obtain ⟨⟨k, o, s, n, l⟩, st3⟩ := q
    go_enter Tryz.func117, Tryz.ntmps117
    go_wp2_with (first
      | (go_at_call 109; refine Calls.mono (takeW_yes len g st _ _ (by assumption) (unhide SX)) ?_; rintro e w1 ⟨rfl, hs, hw⟩; replace X := hide ((unhide X).trans hw); have SY := hide hs; clear hw hs)
      | (go_at_call 144; refine Calls.mono (unhide HX _ ((Gr.of (Ext.alloc w _)).trans (unhide X)) ((unhide HR).go ((Gr.of (Ext.alloc w _)).trans (unhide X)) (unhide SY))) ?_; rintro e w2 ⟨v, rfl, hr, hs, hw⟩; rw [RepN] at hr; obtain ⟨a, cap, rfl, hcap, hl⟩ := hr; have hlt := Nat.lt_of_lt_of_le (Nat.lt_succ_self w.heap.size) (Nat.le_trans (Nat.le_of_eq (size_alloc w _).symm) (unhide X).size); have RD := hide (hw.row ((unhide X).row (Go.heap_alloc_new w _) (by omega)) (by omega)); have r0 := rowC (unhide RD) 0 rfl; have r1 := rowC (unhide RD) 1 rfl; have r2 := rowC (unhide RD) 2 rfl; have r3 := rowC (unhide RD) 3 rfl; have r4 := rowC (unhide RD) 4 rfl; have rz := rowF (unhide RD); have S3 := hide hs; have L3 := hide hl; have X3 := hide (((Gr.of (Ext.alloc w _)).trans (unhide X)).trans hw); clear hw hs hl))
    exact bodyPost_ret (v := nodV k o s n (.slice a l.length cap)) (by simp [results, Tryz.results117, go_sem, r0, r1, r2, r3, r4]) rfl (tree_end hg (unhide S3) (unhide X3) hcap ((unhide L3).gr (Gr.refl g _) (by omega) (by omega)) (k := k) (o := o) (n := n) (s := s))

end Go.Proofs.YtlgdjeiendmniaaGreatDoor
