/- Expressions: all who read them, tied together. · The small readers of statements. · A row of trees under way whose slice lies in a variable of the call's own; a region whose ways out are normal. · Blocks. -/
import Derived.Test.YtjeledllejlpcaaGreatDoorZs10
import Derived.Test.YtjeledllejlpcaaGreatDoorZs11
import Derived.Test.YtjeledllejlpcaaGreatDoorZs12
import Derived.Test.YtjeledllejlpcaaGreatDoorZs13
import Derived.Test.YtjeledllejlpcaaGreatDoorZs14
import Derived.Test.YtjeledllejlpcaaGreatDoorZs15
import Derived.Test.YtjeledllejlpcaaGreatDoorZs7
set_option linter.unusedSimpArgs false
set_option linter.unusedVariables false
set_option maxRecDepth 10000

namespace Go.Proofs.YtjeledllejlpcaaGreatDoor
open Go.RowKit

/-- A function of the reader's reads as r says, from wherever fewer than f words are left. -/
abbrev RdIs (g len : Nat) (fid : FuncId) (r : Rdr) (f : Nat) : Prop := ∀ (st : PS) (W : World), st.ts.length < f → Rs W g len st → Calls Tryz.prog fid #[.pointer (some ⟨g, 0, none⟩)] W (Tree g len W (r st))

theorem RdIs.ex {g len : Nat} {fid : FuncId} {r : Rdr} {f : Nat} (h : RdIs g len fid r f) (st : PS) (w : World) (hl : st.ts.length < f) : ExIs g len fid r st w := fun W _ hR => h st W hl hR

theorem enter_next_lt {st : PS} (len : Nat) (h : st.ts ≠ []) : (st.enter len).next.ts.length < st.ts.length := by
  have h1 := enter_le st len
  have h4 : (st.enter len).next.ts.length = (st.enter len).ts.length - 1 := by simp [PS.next]
  have := List.length_pos_iff.2 h
  omega
theorem enter_sign_lt {st : PS} (len : Nat) (s : ByteArray) (h : st.ts ≠ []) : ((st.enter len).sign len s).ts.length < st.ts.length := by
  have h0 := List.length_pos_iff.2 h
  have h1 := psign_le (st.enter len) len s
  by_cases e : (st.enter len).ts = []
  · rw [e] at h1; simp at h1; rw [h1]; exact h0
  · exact Nat.lt_of_lt_of_le (psign_lt len s e) (enter_le st len)
theorem enter_name_lt {st : PS} (len : Nat) (h : st.ts ≠ []) : ((st.enter len).name len).2.ts.length < st.ts.length := by
  have h0 := List.length_pos_iff.2 h
  have h1 := name_le (st.enter len) len
  by_cases e : (st.enter len).ts = []
  · rw [e] at h1; simp at h1; rw [h1]; exact h0
  · exact Nat.lt_of_lt_of_le (name_lt len e) (enter_le st len)

theorem brIs {g len f : Nat} {ex : Rdr} (h : RdIs g len 73 ex f) (c : ByteArray) (st : PS) (W : World) (hne : st.ts ≠ []) (hl : st.ts.length < f + 1) (hR : Rs W g len st) :
    Calls Tryz.prog 115 #[.pointer (some ⟨g, 0, none⟩), .string c] W (Tree g len W (inBrP len ex c st)) :=
  inBr_any len g ex st c W hR (h.ex _ _ (by have := enter_next_lt len hne; omega))

theorem sglIs {g len f : Nat} {ex : Rdr} (hf : f < 100000) (hsh : Shorter ex) (h : RdIs g len 73 ex f) : RdIs g len 114 (sglP len ex (f + 1)) (f + 1) := by
  intro st W hl hR
  refine sgl_any len g ex (f + 1) st W hR (fun hb W' _ hR' => brIs h _ st W' (isS_ne hb) hl hR') (fun hb W' _ hR' => ?_) (fun hb W' _ hR' => ?_)
  · have h1 := enter_sign_lt len ⟨#[91]⟩ (isS_ne hb)
    exact list_any len g ex (f + 1) st W' hR' (fun W2 _ hR2 => ops_any len g ex (f + 1) ⟨#[93]⟩ _ W2 hR2 (by omega) (by omega) hsh (fun s hs => h.ex s _ (by omega)))
  · have h1 := enter_name_lt len (isCall_ne hb)
    have h2 := psign_le ((st.enter len).name len).2 len ⟨#[40]⟩
    exact call_any len g ex (f + 1) st W' hR' (fun W2 _ hR2 => ops_any len g ex (f + 1) ⟨#[41]⟩ _ W2 hR2 (by omega) (by omega) hsh (fun s hs => h.ex s _ (by omega)))

theorem idxIs {g len f : Nat} {ex : Rdr} (hf : f < 100000) (hsh : Shorter ex) (h : RdIs g len 73 ex f) : RdIs g len 108 (idxP len ex (f + 1)) (f + 1) := fun st W hl hR =>
  idx_any len g ex (f + 1) st W hR hl hsh (fun W' _ hR' => sglIs hf hsh h st W' hl hR') (sgl_le hsh _ st) (fun s hs hne W' _ hR' => brIs h _ s W' hne (by omega) hR')

theorem sgnIs {g len f : Nat} {sg ex : Rdr} (hf : f < 100000) (hsh : Shorter ex) (hs : RdIs g len 103 sg f) (h : RdIs g len 73 ex f) : RdIs g len 103 (sgnP len sg ex (f + 1)) (f + 1) := fun st W hl hR =>
  sgn_any len g sg ex (f + 1) st W hR (fun _ W' _ hR' => idxIs hf hsh h st W' hl hR') (fun hb => hs.ex _ _ (by have := enter_next_lt len (oper_some_ne hb); omega))

theorem levels {g len f : Nat} {sg : Rdr} (hsh : Shorter sg) (h : RdIs g len 103 sg f) : RdIs g len 73 (orP sg f) f := by
  have h5 : RdIs g len 101 (prdP sg f) f := fun st W hl hR => lev5_any len g sg f st W hR hl hsh (fun s hs => h.ex s W (by omega))
  have h4 : RdIs g len 98 (sumP sg f) f := fun st W hl hR => lev4_any len g (prdP sg f) f st W hR hl (prd_le hsh f) (fun s hs => h5.ex s W (by omega))
  have h3 : RdIs g len 92 (cmpP (sumP sg f)) f := fun st W hl hR => cmp_any len g (sumP sg f) st W hR (sum_le hsh f) (fun s hs => h4.ex s W (by omega))
  have h2 : RdIs g len 83 (botP sg f) f := fun st W hl hR => lev2_any len g (cmpP (sumP sg f)) f st W hR hl (cmp_le (sum_le hsh f)) (fun s hs => h3.ex s W (by omega))
  exact fun st W hl hR => lev1_any len g (botP sg f) f st W hR hl (bot_le hsh f) (fun s hs => h2.ex s W (by omega))

theorem both_one (len f : Nat) : (bothP len (f + 1)).1 = sgnP len (bothP len f).1 (bothP len f).2 (f + 1) := by rw [bothP]
theorem both_two (len f : Nat) : (bothP len (f + 1)).2 = orP (sgnP len (bothP len f).1 (bothP len f).2 (f + 1)) (f + 1) := by rw [bothP]

theorem ex_all (g len B : Nat) (hB : B = 100000) (f : Nat) : f ≤ B → RdIs g len 103 (bothP len f).1 f ∧ RdIs g len 73 (bothP len f).2 f := by
  induction f with
  | zero => exact fun _ => ⟨fun st W hl _ => absurd hl (Nat.not_lt_zero _), fun st W hl _ => absurd hl (Nat.not_lt_zero _)⟩
  | succ f ih =>
    intro hf
    obtain ⟨h1, h2⟩ := ih (by omega)
    obtain ⟨s1, s2⟩ := both_le len f
    have hs := sgnIs (by omega) s2 h1 h2
    have he := levels (sg := sgnP len (bothP len f).1 (bothP len f).2 (f + 1)) (sgn_le s1 s2 _) hs
    rw [both_one, both_two]
    exact ⟨hs, he⟩

/-- An expression is read as exP says. -/
theorem exIs (g len f : Nat) (hf : f ≤ 100000) : RdIs g len 73 (exP len f) f := by
  have h := (ex_all g len 100000 rfl f hf).2
  unfold exP
  exact h

end Go.Proofs.YtjeledllejlpcaaGreatDoor

namespace Go.Proofs.YtjeledllejlpcaaGreatDoor
open Go.RowKit

set_option maxHeartbeats 2000000 in
theorem plain_any (len g : Nat) (k : Int) (st : PS) (w : World) (hS : St w g len st) :
    Calls Tryz.prog 74 #[.pointer (some ⟨g, 0, none⟩), .int .i64 k] w (Tree g len w (plainP len k st)) := by
  have hg : g < w.heap.size := hS.lt
  unfold plainP
  have HG := hide (fun W (x : Ext w W) => psign_any len g st ⟨#[59]⟩ W (hS.ext x))
  clear hS
  go_enter Tryz.func74, Tryz.ntmps74
  go_wp2_with (go_at_call 29; refine Calls.mono (unhide HG _ (Ext.alloc _ _)) ?_; rintro e w2 ⟨rfl, hs, hw⟩; have RD := hide (hw.row (Go.heap_alloc_new w _) (by omega)); have r0 := rowC (unhide RD) 0 rfl; have r1 := rowC (unhide RD) 1 rfl; have r2 := rowC (unhide RD) 2 rfl; have r3 := rowC (unhide RD) 3 rfl; have r4 := rowC (unhide RD) 4 rfl; have rz := rowF (unhide RD); have S3 := hide hs; have X3 := hide ((Gr.of (Ext.alloc w _)).trans hw); clear hw hs)
  exact bodyPost_ret (v := nodV k 0 emptyB 0 (.slice none 0 0)) (by simp [results, Tryz.results74, go_sem, r0, r1, r2, r3, r4]) rfl (tree_end (l := []) hg (unhide S3) (unhide X3) (Nat.zero_le _) (by simp [RepNL]))

set_option maxHeartbeats 4000000 in
theorem ofEx_any (len g : Nat) (ex : Rdr) (kd : Int) (st : PS) (w : World) (hR : Rs w g len st) (hex : ExIs g len 73 ex st w) :
    Calls Tryz.prog 76 #[.pointer (some ⟨g, 0, none⟩), .int .i64 kd] w (Tree g len w (ofExP len ex kd st)) := by
  have hg : g < w.heap.size := hR.st.lt
  unfold ofExP
  have HX := hide hex
  unfold ExIs at HX
  clear hex
  generalize ex st = q at HX
  obtain ⟨⟨k, o, s, n, l⟩, st3⟩ := q
  have HG := hide (fun W (x : St W g len st3) => psign_any len g st3 ⟨#[59]⟩ W x)
  have HR := hide hR
  clear hR
  go_enter Tryz.func76, Tryz.ntmps76
  go_wp2_with (first
    | (go_at_call 73; refine Calls.mono (unhide HX _ (Gr.of (Ext.alloc _ _)) ((unhide HR).alloc _)) ?_; rintro e w1 ⟨v, rfl, hr, hs, hw⟩; rw [RepN] at hr; obtain ⟨a, cap, rfl, hcap, hl⟩ := hr; have RB := hide (hw.row (Go.heap_alloc_new w _) (by omega)); have S1 := hide hs; have L1 := hide hl; have X1 := hide ((Gr.of (Ext.alloc _ _)).trans hw); have hlt1 : w.heap.size < w1.heap.size := (Array.getElem?_eq_some_iff.1 (unhide RB)).1; clear hw hs hl)
    | (go_at_call 29; refine Calls.mono (unhide HG _ (((unhide S1).alloc _).alloc _)) ?_; rintro e w2 ⟨rfl, hs, hw⟩; have RC := hide (hw.row ((Ext.alloc _ _).row ((Ext.alloc _ _).row (unhide RB))) (by omega)); have RI := hide (hw.row ((Ext.alloc _ _).row (Go.heap_alloc_new w1 _)) (by omega)); have RN := hide (hw.row (Go.heap_alloc_new (w1.alloc _) _) (by simp; omega)); have r0 := rowC (unhide RC) 0 rfl; have r1 := rowC (unhide RC) 1 rfl; have r2 := rowC (unhide RC) 2 rfl; have r3 := rowC (unhide RC) 3 rfl; have r4 := rowC (unhide RC) 4 rfl; have rz := rowF (unhide RC); have d0 := rowC (unhide RN) 0 rfl; have d1 := rowC (unhide RN) 1 rfl; have d2 := rowC (unhide RN) 2 rfl; have d3 := rowC (unhide RN) 3 rfl; have d4 := rowC (unhide RN) 4 rfl; simp only [size_alloc] at d0 d1 d2 d3 d4; have S2 := hide hs; have G2 := hide ((Gr.of ((Ext.alloc _ _).trans (Ext.alloc _ _))).trans hw); have X2 := hide ((unhide X1).trans (unhide G2)); have hlt2 : w1.heap.size < w2.heap.size := (Array.getElem?_eq_some_iff.1 (unhide RI)).1; clear hw hs))
  have L2 : RepNL w2 (fun b => w.heap.size < b ∧ b < w2.heap.size) l a := (unhide L1).gr (unhide G2) (by simp; omega) (by simp)
  have T2 := tree_end (l := [⟨k, o, s, n, l⟩]) hg (unhide S2) (unhide X2) (Nat.le_refl 1) (one_rep (F := fun b => w.heap.size < b ∧ b < w2.heap.size) (unhide RI) ⟨hlt1, hlt2⟩ hcap L2) (k := kd) (o := 0) (n := 0) (s := emptyB)
  exact bodyPost_ret (v := nodV kd 0 emptyB 0 (.slice (some ⟨w1.heap.size, 0, none⟩) 1 1)) (by simp [results, Tryz.results76, go_sem, r0, r1, r2, r3, r4]) rfl T2

set_option maxHeartbeats 4000000 in
theorem answer_any (len g : Nat) (ex : Rdr) (st : PS) (w : World) (hR : Rs w g len st) (hex : ExIs g len 73 ex st w) :
    Calls Tryz.prog 75 #[.pointer (some ⟨g, 0, none⟩)] w (Tree g len w (answerP len ex st)) := by
  have hg : g < w.heap.size := hR.st.lt
  unfold answerP
  have HS := hide (fun W (x : Ext w W) => isSign_any len g st ⟨#[59]⟩ W (hR.st.ext x))
  have HP := hide (fun W (x : Ext w W) => plain_any len g 7 st W (hR.st.ext x))
  have HO := hide (fun W (x : Ext w W) => ofEx_any len g ex 7 st W (hR.ext x) (fun W' x' h => hex W' ((Gr.of x).trans x') h))
  clear hR hex
  cases hb : st.isS ⟨#[59]⟩
  · rw [if_neg (by decide)]
    rw [hb] at HS
    generalize ofExP len ex 7 st = q at HO
    obtain ⟨⟨k, o, s, n, l⟩, st3⟩ := q
    go_enter Tryz.func75, Tryz.ntmps75
    go_wp2_with (first
      | (go_at_call 49; refine Calls.mono (unhide HS _ (Ext.alloc w _)) ?_; rintro e w1 ⟨rfl, hw⟩; have RB := hide (hw.row (Go.heap_alloc_new w _)); have X1 := hide ((Ext.alloc _ _).trans hw); have hlt1 : w.heap.size < w1.heap.size := (Array.getElem?_eq_some_iff.1 (unhide RB)).1; clear hw)
      | (go_at_call 76; refine Calls.mono (unhide HO _ (unhide X1)) ?_; rintro e w2 ⟨v, rfl, hr, hs, hw⟩; rw [RepN] at hr; obtain ⟨a, cap, rfl, hcap, hl⟩ := hr; have RD := hide (hw.row (unhide RB) (by omega)); have r0 := rowC (unhide RD) 0 rfl; have r1 := rowC (unhide RD) 1 rfl; have r2 := rowC (unhide RD) 2 rfl; have r3 := rowC (unhide RD) 3 rfl; have r4 := rowC (unhide RD) 4 rfl; have rz := rowF (unhide RD); have S3 := hide hs; have L3 := hide hl; have X3 := hide ((Gr.of (unhide X1)).trans hw); clear hw hs hl))
    exact bodyPost_ret (v := nodV k o s n (.slice a l.length cap)) (by simp [results, Tryz.results75, go_sem, r0, r1, r2, r3, r4]) rfl (tree_end hg (unhide S3) (unhide X3) hcap ((unhide L3).gr (Gr.refl g _) (by omega) (by omega)) (k := k) (o := o) (n := n) (s := s))
  · rw [if_pos rfl]
    rw [hb] at HS
    generalize plainP len 7 st = q at HP
    obtain ⟨⟨k, o, s, n, l⟩, st3⟩ := q
    go_enter Tryz.func75, Tryz.ntmps75
    go_wp2_with (first
      | (go_at_call 49; refine Calls.mono (unhide HS _ (Ext.alloc w _)) ?_; rintro e w1 ⟨rfl, hw⟩; have RB := hide (hw.row (Go.heap_alloc_new w _)); have X1 := hide ((Ext.alloc _ _).trans hw); have hlt1 : w.heap.size < w1.heap.size := (Array.getElem?_eq_some_iff.1 (unhide RB)).1; clear hw)
      | (go_at_call 74; refine Calls.mono (unhide HP _ (unhide X1)) ?_; rintro e w2 ⟨v, rfl, hr, hs, hw⟩; rw [RepN] at hr; obtain ⟨a, cap, rfl, hcap, hl⟩ := hr; have RD := hide (hw.row (unhide RB) (by omega)); have r0 := rowC (unhide RD) 0 rfl; have r1 := rowC (unhide RD) 1 rfl; have r2 := rowC (unhide RD) 2 rfl; have r3 := rowC (unhide RD) 3 rfl; have r4 := rowC (unhide RD) 4 rfl; have rz := rowF (unhide RD); have S3 := hide hs; have L3 := hide hl; have X3 := hide ((Gr.of (unhide X1)).trans hw); clear hw hs hl))
    exact bodyPost_ret (v := nodV k o s n (.slice a l.length cap)) (by simp [results, Tryz.results75, go_sem, r0, r1, r2, r3, r4]) rfl (tree_end hg (unhide S3) (unhide X3) hcap ((unhide L3).gr (Gr.refl g _) (by omega) (by omega)) (k := k) (o := o) (n := n) (s := s))

set_option maxHeartbeats 4000000 in
theorem named_any (len g : Nat) (ex : Rdr) (kd : Int) (st : PS) (w : World) (hR : Rs w g len st) (hex : ExIs g len 73 ex ((st.name len).2.sign len ⟨#[61]⟩) w) :
    Calls Tryz.prog 70 #[.pointer (some ⟨g, 0, none⟩), .int .i64 kd] w (Tree g len w (namedP len ex kd st)) := by
  have hg : g < w.heap.size := hR.st.lt
  unfold namedP
  have HN := hide (fun W (x : St W g len st) => name_p len g st W x)
  have HG := hide (fun W (x : St W g len (st.name len).2) => psign_any len g (st.name len).2 ⟨#[61]⟩ W x)
  have HO := hide (fun W (x : Gr g w W) (y : Rs W g len ((st.name len).2.sign len ⟨#[61]⟩)) => ofEx_any len g ex kd _ W y (fun W' x' h => hex W' (x.trans x') h))
  have HR := hide hR
  clear hR hex
  have hq : (ofExP len ex kd ((st.name len).2.sign len ⟨#[61]⟩)).1 = ⟨kd, 0, emptyB, 0, (ofExP len ex kd ((st.name len).2.sign len ⟨#[61]⟩)).1.l⟩ := rfl
  generalize (st.name len).1 = nm at HN ⊢
  generalize ofExP len ex kd ((st.name len).2.sign len ⟨#[61]⟩) = q at HO hq ⊢
  obtain ⟨⟨k, o, s, n, l⟩, st3⟩ := q
  injection hq with e1 e2 e3 e4 e5
  subst e1 e2 e3 e4
  clear e5
  go_enter Tryz.func70, Tryz.ntmps70
  go_wp2_with (first
    | (go_at_call 28; refine Calls.mono (unhide HN _ ((unhide HR).st.alloc _)) ?_; rintro e w1 ⟨rfl, hs, hw⟩; have RB := hide (hw.row (Go.heap_alloc_new w _) (by omega)); have S1 := hide hs; have X1 := hide ((Gr.of (Ext.alloc _ _)).trans hw); clear hw hs)
    | (go_at_call 29; refine Calls.mono (unhide HG _ (unhide S1)) ?_; rintro e w2 ⟨rfl, hs, hw⟩; have RC := hide (hw.row (unhide RB) (by omega)); have S2 := hide hs; have X2 := hide ((unhide X1).trans hw); have hlt2 : w.heap.size < w2.heap.size := (Array.getElem?_eq_some_iff.1 (unhide RC)).1; clear hw hs)
    | (go_at_call 76; refine Calls.mono (unhide HO _ (unhide X2) ((unhide HR).go (unhide X2) (unhide S2))) ?_; rintro e w3 ⟨v, rfl, hr, hs, hw⟩; rw [RepN] at hr; obtain ⟨a, cap, rfl, hcap, hl⟩ := hr; have RD := hide (hw.row (unhide RC) (by omega)); have r0 := rowC (unhide RD) 0 rfl; have r1 := rowC (unhide RD) 1 rfl; have r2 := rowC (unhide RD) 2 rfl; have r3 := rowC (unhide RD) 3 rfl; have r4 := rowC (unhide RD) 4 rfl; have rz := rowF (unhide RD); have S3 := hide hs; have L3 := hide hl; have X3 := hide ((unhide X2).trans hw); have hlt3 : w.heap.size < w3.heap.size := (Array.getElem?_eq_some_iff.1 (unhide RD)).1; clear hw hs hl))
  have T3 := tree_end hg (unhide S3) (unhide X3) hcap ((unhide L3).gr (Gr.refl g _) (by omega) (by omega)) (k := k) (o := 0) (n := 0) (s := nm)
  have e0 := set5_past (unhide RD) k 0 nm 0 (.slice a l.length cap) 0 _ rfl
  have e1 := set5_past (unhide RD) k 0 nm 0 (.slice a l.length cap) 1 _ rfl
  have e2 := set5_past (unhide RD) k 0 nm 0 (.slice a l.length cap) 2 _ rfl
  have e3 := set5_past (unhide RD) k 0 nm 0 (.slice a l.length cap) 3 _ rfl
  have e4 := set5_past (unhide RD) k 0 nm 0 (.slice a l.length cap) 4 _ rfl
  exact bodyPost_ret (v := nodV k 0 nm 0 (.slice a l.length cap)) (by simp [results, Tryz.results70, go_sem, e0, e1, e2, e3, e4]) rfl (T3.gr hg (Gr.of (Ext.alloc _ _)) (((unhide S3).set5 hg _ _ _ _ _).alloc _))

set_option maxHeartbeats 1000000 in
theorem isSet_any (len g : Nat) (st : PS) (w : World) (hS : St w g len st) :
    Calls Tryz.prog 71 #[.pointer (some ⟨g, 0, none⟩)] w fun e w' => e = .returned (.bool st.isSet) ∧ Ext w w' := by
  have HA := hide (fun W (x : Ext w W) => ahead_any len g st 0 0 rfl W (hS.ext x))
  have HB := hide (fun W (x : Ext w W) => ahead_any len g st 1 1 rfl W (hS.ext x))
  unfold PS.isSet isT
  clear hS
  generalize hdT st.ts 0 = y at *
  generalize hdT st.ts 1 = z at *
  cases hk : (y.k == 1)
  · go_enter Tryz.func71, Tryz.ntmps71
    go_wp2_with (go_at_call 46; refine Calls.mono (unhide HA _ (Ext.refl _)) ?_; rintro e w1 ⟨rfl, hw⟩; have X := hide hw; clear hw)
    go_ret
    exact ⟨rfl, unhide X⟩
  · go_enter Tryz.func71, Tryz.ntmps71
    go_wp2_with (first
      | (have G := unhide Y; clear G; go_at_call 69; refine Calls.mono (is_any _ _ _ _ _ _ _) ?_; rintro e w3 ⟨rfl, hw⟩; have Z := hide ((unhide Y).trans hw); clear hw)
      | (have G := unhide X; clear G; go_at_call 46; refine Calls.mono (unhide HB _ (unhide X)) ?_; rintro e w2 ⟨rfl, hw⟩; have Y := hide ((unhide X).trans hw); clear hw)
      | (go_at_call 46; refine Calls.mono (unhide HA _ (Ext.refl _)) ?_; rintro e w1 ⟨rfl, hw⟩; have X := hide hw; clear hw))
    go_ret
    exact ⟨by rw [Bool.true_and, show (⟨#[61]⟩ : ByteArray).toList = [61] by simp]; rfl, unhide Z⟩

end Go.Proofs.YtjeledllejlpcaaGreatDoor

namespace Go.Proofs.YtjeledllejlpcaaGreatDoor
open Go.RowKit

/-- Out by the normal way alone. -/
def Nrm (Q : Exit → Act → World → Prop) : Exit → Act → World → Prop
  | .normal, a, w => Q .normal a w
  | _, _, _ => False
theorem wp_nrm {P : Program} {c : Code} {Q : Exit → Act → World → Prop} {a : Act} {w : World} (h : c.wp P (Nrm Q) a w) : c.wp P Q a w :=
  Code.wp_mono (fun e a w hq => by cases e <;> first | exact hq | exact hq.elim) h

/-- A row of trees in blocks from base on. -/
structure HoldB (base : Nat) (wr : World) (ps : List PN) (ao : Option Addr) (cap : Nat) : Prop where
  own : ∃ xs, wr.ownsRow base 54 5 (.slice ao ps.length cap) ps.length xs ∧ RowN wr (fun b => base ≤ b ∧ b < wr.heap.size ∧ some b ≠ (Value.slice ao ps.length cap).ownBlock) ps xs

theorem HoldB.nil (base : Nat) (wr : World) : HoldB base wr [] none 0 := ⟨[], World.ownsRow_nil _ _ _ _, rfl⟩

theorem heldB_on {x base : Nat} {wr w2 : World} {acc : List PN} {v : Value} {n : Nat} {xs : List Value} (hx : wr.ownsRow base 54 5 v n xs ∧ RowN wr (fun b => base ≤ b ∧ b < wr.heap.size ∧ some b ≠ v.ownBlock) acc xs) (k : Gr x wr w2) (hb : x < base) :
    w2.ownsRow base 54 5 v n xs ∧ RowN w2 (fun b => base ≤ b ∧ b < w2.heap.size ∧ some b ≠ v.ownBlock) acc xs :=
  ⟨own_gr hx.1 k hb, RowN.to (fun b hb => ⟨⟨hb.1, Nat.lt_of_lt_of_le hb.2.1 k.size, hb.2.2⟩, k.block b hb.2.1 (by have := hb.1; omega)⟩) hx.2⟩
theorem HoldB.on {x base : Nat} {wr w2 : World} {ps : List PN} {ao : Option Addr} {cap : Nat} (h : HoldB base wr ps ao cap) (k : Gr x wr w2) (hx : x < base) : HoldB base w2 ps ao cap := by
  obtain ⟨xs, hx2⟩ := h.own
  exact ⟨xs, heldB_on hx2 k hx⟩

theorem HoldB.done {base : Nat} {wr : World} {ps : List PN} {ao : Option Addr} {cap : Nat} (h : HoldB base wr ps ao cap) : ps.length ≤ cap ∧ RepNL wr (Fr base wr.heap.size) ps ao := by
  obtain ⟨xs, ho, hr⟩ := h.own
  obtain ⟨hlen, ⟨e, h0⟩ | ⟨b, cap2, cur, e, hb, hrow, hc, _⟩⟩ := id ho
  · have : ps = [] := List.length_eq_zero_iff.1 h0
    subst this
    exact ⟨Nat.zero_le _, by simp [RepNL]⟩
  · injection e with e1 e2 e3
    subst e1 e3
    refine ⟨hc, RowN.repL (g := b) ⟨hb, (Array.getElem?_eq_some_iff.1 hrow).1⟩ (RowN.to (fun x hx => ⟨⟨hx.1, hx.2.1⟩, rfl⟩) hr) (cells_own ho)⟩

/-- What an append onto such a row leaves as it was. -/
theorem below_grown {base : Nat} {w2 w3 : World} {e : TypeId} {size n : Nat} {v : Value} {xs : List Value} (hown : w2.ownsRow base e size v n xs) (hgw : w2.grownBy w3 v.ownBlock) : ∀ k, k < base → k < w2.heap.size → w3.heap[k]? = w2.heap[k]? :=
  fun k hk hk2 => hgw.block k hk2 (fun e => by have := (hown.lt k e.symm).1; omega)
theorem Gr.append {g base : Nat} {w w2 w3 : World} {e : TypeId} {size n : Nat} {v : Value} {xs : List Value} (hgr : Gr g w w2) (hown : w2.ownsRow base e size v n xs) (hb : w.heap.size ≤ base) (hgw : w2.grownBy w3 v.ownBlock) : Gr g w w3 :=
  ⟨hgw.os.trans hgr.os, hgw.tape.trans hgr.tape, hgw.output.trans hgr.output, Nat.le_trans hgr.size hgw.size, fun k hk hk2 => (below_grown hown hgw k (by omega) (Nat.lt_of_lt_of_le hk hgr.size)).trans (hgr.block k hk hk2)⟩
theorem St.append {g len base : Nat} {w2 w3 : World} {st : PS} {e : TypeId} {size n : Nat} {v : Value} {xs : List Value} (h : St w2 g len st) (hg : g < base) (hown : w2.ownsRow base e size v n xs) (hgw : w2.grownBy w3 v.ownBlock) : St w3 g len st := by
  have hlt := h.lt
  obtain ⟨T, h1, a, cap, rfl, h3, h4, h5⟩ := h.ex
  have hk := below_grown hown hgw
  refine ⟨⟨_, (hk g hg hlt).trans h1, a, cap, rfl, h3, h4, ?_⟩⟩
  rcases h5 with h5 | ⟨b, off, rfl, hb, hc⟩
  · exact Or.inl h5
  · exact Or.inr ⟨b, off, rfl, hb, fun j u hu => by rw [World.cell?_of_block (w := w2) (hk b (by omega) (by omega))]; exact hc j u hu⟩

/-- One tree more, behind the append. -/
theorem HoldB.snoc {base : Nat} {w2 w3 : World} {ps : List PN} {ao : Option Addr} {cap g' cap' : Nat} {p : PN} {a : Option Addr} {c : Nat} {xs : List Value}
    (hx : RowN w2 (fun b => base ≤ b ∧ b < w2.heap.size ∧ some b ≠ (Value.slice ao ps.length cap).ownBlock) ps xs)
    (ho : w3.ownsRow base 54 5 (.slice (some ⟨g', 0, none⟩) (ps.length + 1) cap') (ps.length + 1) (xs ++ ndC p a c))
    (hb : p.l.length ≤ c) (hp : RepNL w2 (fun b => base ≤ b ∧ b < w2.heap.size ∧ some b ≠ (Value.slice ao ps.length cap).ownBlock) p.l a)
    (hgw : w2.grownBy w3 (Value.slice ao ps.length cap).ownBlock) (hw : (Value.slice ao ps.length cap).ownBlock = some g' ∨ w2.heap.size ≤ g') :
    HoldB base w3 (ps ++ [p]) (some ⟨g', 0, none⟩) cap' := by
  have hlen : (ps ++ [p]).length = ps.length + 1 := by simp
  have hF : ∀ b, (base ≤ b ∧ b < w2.heap.size ∧ some b ≠ (Value.slice ao ps.length cap).ownBlock) →
      (base ≤ b ∧ b < w3.heap.size ∧ some b ≠ (Value.slice (some ⟨g', 0, none⟩) (ps ++ [p]).length cap').ownBlock) ∧ w3.heap[b]? = w2.heap[b]? := by
    intro b hb
    refine ⟨⟨hb.1, Nat.lt_of_lt_of_le hb.2.1 hgw.size, ?_⟩, hgw.block b hb.2.1 hb.2.2⟩
    intro e
    simp only [Value.ownBlock, Option.some.injEq] at e
    rcases hw with e2 | e2
    · exact hb.2.2 (by rw [e2, e])
    · omega
  exact ⟨_, by rw [hlen]; exact ho, RowN.snoc hb (RepNL.to hF _ _ hp) (RowN.to hF hx)⟩

/-- What holds at the head of a block's loop. -/
structure BlkI (g len : Nat) (sm : Rdr) (w wr : World) (F : List PN × PS) (stc : PS) (k : Nat) (acc : List PN) (ao : Option Addr) (cap : Nat) : Prop where
  eq : F = blkLoop sm k acc stc
  fuel : stc.ts.length < k
  bnd : acc.length + stc.ts.length ≤ 100001
  rs : Rs wr g len stc
  gr : Gr g w wr
  r2 : wr.heap[w.heap.size]? = some (nodO 0 0 emptyB 0 (.slice none 0 0))
  r3 : wr.heap[w.heap.size + 1]? = some (nodO 10 0 emptyB 0 (.slice ao acc.length cap))
  hold : HoldB (w.heap.size + 2) wr acc ao cap

/-- Behind an append of the tree that was read last, and the store of the slice. -/
theorem BlkI.snoc {g len : Nat} {sm : Rdr} {w wr w5 w6 : World} {F : List PN × PS} {stc st5 : PS} {j : Nat} {acc : List PN} {ao : Option Addr} {cap g' cap' : Nat} {k o n : Int} {s : ByteArray} {l : List PN} {a : Option Addr} {c : Nat} {xs : List Value}
    {st0 : PS} (hR : Rs w g len st0) (h : BlkI g len sm w wr F stc (j + 1) acc ao cap) (hq : F = blkLoop sm j (acc ++ [⟨k, o, s, n, l⟩]) st5) (hl : st5.ts.length < stc.ts.length) (X5 : Gr g wr w5) (S5 : St w5 g len st5) (hc : l.length ≤ c) (L5 : RepNL w5 (Fr wr.heap.size w5.heap.size) l a) (ob : Obj)
    (hx : (w5.alloc ob).ownsRow (w.heap.size + 2) 54 5 (.slice ao acc.length cap) acc.length xs ∧ RowN (w5.alloc ob) (fun b => w.heap.size + 2 ≤ b ∧ b < (w5.alloc ob).heap.size ∧ some b ≠ (Value.slice ao acc.length cap).ownBlock) acc xs)
    (ho : w6.ownsRow (w.heap.size + 2) 54 5 (.slice (some ⟨g', 0, none⟩) (acc.length + 1) cap') (acc.length + 1) (xs ++ [.int .i64 k, .int .i64 o, .string s, .int .i64 n, .slice a l.length c]))
    (hgw : (w5.alloc ob).grownBy w6 (Value.slice ao acc.length cap).ownBlock) (hw0 : (Value.slice ao acc.length cap).ownBlock = some g' ∨ w5.heap.size + 1 ≤ g') :
    BlkI g len sm w (w6.setCell ⟨w.heap.size + 1, 4, none⟩ (.slice (some ⟨g', 0, none⟩) (acc.length + 1) cap')) F st5 j (acc ++ [⟨k, o, s, n, l⟩]) (some ⟨g', 0, none⟩) cap' := by
  have hg : g < w.heap.size := hR.st.lt
  have hr3 : w.heap.size + 1 < wr.heap.size := (Array.getElem?_eq_some_iff.1 h.r3).1
  have hsz := X5.size
  have hw : (Value.slice ao acc.length cap).ownBlock = some g' ∨ (w5.alloc ob).heap.size ≤ g' := by rw [size_alloc]; exact hw0
  have hk := below_grown hx.1 hgw
  have G5 : Gr g wr (w5.alloc ob) := X5.alloc ob
  have hz5 : (w5.alloc ob).heap.size = w5.heap.size + 1 := size_alloc _ _
  have hp : RepNL (w5.alloc ob) (fun b => w.heap.size + 2 ≤ b ∧ b < (w5.alloc ob).heap.size ∧ some b ≠ (Value.slice ao acc.length cap).ownBlock) l a := by
    obtain ⟨ys, hy, _⟩ := h.hold.own
    exact RepNL.to (fun b hb => ⟨⟨by have := hb.1; omega, by have := hb.2; omega, fun e => by have := (hy.lt b e.symm).2; have := hb.1; omega⟩, (Ext.alloc w5 ob).block b hb.2⟩) _ _ L5
  have H6 : HoldB (w.heap.size + 2) w6 (acc ++ [⟨k, o, s, n, l⟩]) (some ⟨g', 0, none⟩) cap' := HoldB.snoc (p := ⟨k, o, s, n, l⟩) hx.2 ho hc hp hgw hw
  have G6 : Gr g w w6 := Gr.append (h.gr.trans G5) hx.1 (by omega) hgw
  have S6 : St w6 g len st5 := (S5.alloc ob).append (by omega) hx.1 hgw
  have K6 : Gr (w.heap.size + 1) w6 (w6.setCell ⟨w.heap.size + 1, 4, none⟩ (.slice (some ⟨g', 0, none⟩) (acc.length + 1) cap')) := (Gr.refl _ _).set (p := ⟨w.heap.size + 1, 4, none⟩) (Or.inr rfl) _
  have hln : (acc ++ [(⟨k, o, s, n, l⟩ : PN)]).length = acc.length + 1 := by simp
  have R3 : w6.heap[w.heap.size + 1]? = some (nodO 10 0 emptyB 0 (.slice ao acc.length cap)) := (hk _ (by omega) (by omega)).trans (G5.row h.r3 (by omega))
  have G7 := G6.set (p := ⟨w.heap.size + 1, 4, none⟩) (Or.inl (by show w.heap.size ≤ w.heap.size + 1; omega)) (.slice (some ⟨g', 0, none⟩) (acc.length + 1) cap')
  have R2 : w6.heap[w.heap.size]? = some (nodO 0 0 emptyB 0 (.slice none 0 0)) := (hk _ (by omega) (by omega)).trans (G5.row h.r2 (by omega))
  exact ⟨hq, by have := h.fuel; omega, by rw [hln]; have := h.bnd; omega, hR.go G7 (S6.set (b := w.heap.size + 1) (by omega) _ _), G7, row_other R2 (by omega) _ _, by rw [hln]; exact row_set R3 4 _, H6.on K6 (by omega)⟩

end Go.Proofs.YtjeledllejlpcaaGreatDoor

namespace Go.Proofs.YtjeledllejlpcaaGreatDoor
open Go.RowKit

theorem BlkI.shut {g len : Nat} {sm : Rdr} {w wr w6 : World} {F : List PN × PS} {stc st6 : PS} {k : Nat} {acc : List PN} {ao : Option Addr} {cap : Nat} (h : BlkI g len sm w wr F stc k acc ao cap) (hg : g < w.heap.size) (X : Gr g wr w6) (S : St w6 g len st6) :
    Tree g len w (⟨10, 0, emptyB, 0, acc⟩, st6) (.returned (nodV 10 0 emptyB 0 (.slice ao acc.length cap))) (set5 w6 w.heap.size 10 0 emptyB 0 (.slice ao acc.length cap)) := by
  obtain ⟨d1, d2⟩ := (h.hold.on X (by omega)).done
  exact tree_end hg S (h.gr.trans X) d1 (RepNL.to (fun b hb => ⟨⟨by have := hb.1; omega, hb.2⟩, rfl⟩) _ _ d2)

theorem enterStm (v : Value) (w : World) : (callFunc 52 #[v]).run Tryz.prog w = .ok (.enter 52 #[v]) w := by kernel_rfl

set_option maxHeartbeats 8000000 in
theorem blk_any (len g : Nat) (sm : Rdr) (f : Nat) (st : PS) (w : World) (hR : Rs w g len st) (hf : st.ts.length < f) (hf2 : f ≤ 100000) (hlt : st.ts ≠ [] → ∀ s : PS, s.ts ≠ [] → (sm s).2.ts.length < s.ts.length)
    (hsm : ∀ s : PS, s.ts.length < st.ts.length → ExIs g len 52 sm s w) :
    Calls Tryz.prog 31 #[.pointer (some ⟨g, 0, none⟩)] w (Tree g len w (blkP len sm f st)) := by
  have hg : g < w.heap.size := hR.st.lt
  unfold blkP
  have HS := hide (fun W (x : Ext w W) => isSign_any len g st ⟨#[123]⟩ W (hR.st.ext x))
  cases hb : st.isS ⟨#[123]⟩
  · rw [if_neg (by decide)]
    rw [hb] at HS
    have HF := hide (fun W (x : St W g len st) => fail_any len g st 10 W x)
    have HR := hide hR
    clear hR hlt hsm
    go_enter_defers Tryz.func31, Tryz.ntmps31
    go_wp2_with (first
      | (go_at_call 49; refine Calls.mono (unhide HS _ ((Ext.alloc w _).trans (Ext.alloc _ _))) ?_; rintro e w1 ⟨rfl, hw⟩; have RB := hide (hw.row ((Ext.alloc _ _).row (Go.heap_alloc_new w _))); have RN := hide (hw.row (Go.heap_alloc_new (w.alloc _) _)); have X1 := hide (((Ext.alloc w _).trans (Ext.alloc _ _)).trans hw); clear hw)
      | (go_at_call 45; refine Calls.mono (unhide HF _ ((unhide HR).st.ext (unhide X1))) ?_; rintro e w2 ⟨rfl, hs, hw⟩; have RC := hide (hw.row (unhide RB) (by omega)); have RD := hide (hw.row (unhide RN) (by simp; omega)); have r0 := rowC (unhide RC) 0 rfl; have r1 := rowC (unhide RC) 1 rfl; have r2 := rowC (unhide RC) 2 rfl; have r3 := rowC (unhide RC) 3 rfl; have r4 := rowC (unhide RC) 4 rfl; have rz := rowF (unhide RC); have d0 := rowC (unhide RD) 0 rfl; have d1 := rowC (unhide RD) 1 rfl; have d2 := rowC (unhide RD) 2 rfl; have d3 := rowC (unhide RD) 3 rfl; have d4 := rowC (unhide RD) 4 rfl; simp only [size_alloc] at d0 d1 d2 d3 d4; have S2 := hide hs; have X2 := hide ((Gr.of (unhide X1)).trans hw); clear hw hs))
    exact ⟨_, res_node rfl _ _ w.heap.size 10 0 emptyB 0 _ rfl (set5_row (unhide RC) _ _ _ _ _), tree_end (l := []) hg (unhide S2) (unhide X2) (Nat.zero_le _) (by simp [RepNL])⟩
  · rw [if_pos rfl]
    rw [hb] at HS
    have hne := isS_ne hb
    have HE := hide (fun W (x : St W g len st) => enter_p len g st W x)
    have HN := hide (fun W (x : St W g len (st.enter len)) => next_any len g (st.enter len) W x)
    have hl0 := enter_next_lt len hne
    have HX := hide hsm
    have HLT := hide (hlt hne)
    have HR := hide hR
    obtain ⟨F, hF⟩ : ∃ F, F = blkLoop sm f [] (st.enter len).next := ⟨_, rfl⟩
    rw [← hF]
    have HF := hide hF
    clear hR hlt hsm hF hb hne
    obtain ⟨i0, hi, hz0, hz1, hz2⟩ := info_parts infoN
    have HI := hide hi
    have Z0 := hide hz0
    have Z1 := hide hz1
    have Z2 := hide hz2
    clear hi hz0 hz1 hz2
    go_enter_defers Tryz.func31, Tryz.ntmps31
    go_wp2_with (first
      | (go_at_call 49; refine Calls.mono (unhide HS _ ((Ext.alloc w _).trans (Ext.alloc _ _))) ?_; rintro e w1 ⟨rfl, hw⟩; have RB := hide (hw.row ((Ext.alloc _ _).row (Go.heap_alloc_new w _))); have RN := hide (hw.row (Go.heap_alloc_new (w.alloc _) _)); have X1 := hide (((Ext.alloc w _).trans (Ext.alloc _ _)).trans hw); clear hw)
      | (go_at_call 50; refine Calls.mono (unhide HE _ ((unhide HR).st.ext (unhide X1))) ?_; rintro e w2 ⟨rfl, hs, hw⟩; have RB2 := hide (hw.row (unhide RB) (by omega)); have RN2 := hide (hw.row (unhide RN) (by simp; omega)); have S2 := hide hs; have X2 := hide ((Gr.of (unhide X1)).trans hw); clear hw hs)
      | (go_at_call 47; refine Calls.mono (unhide HN _ (unhide S2)) ?_; rintro e w3 ⟨rfl, hs, hw⟩; have RB3 := hide (hw.row (unhide RB2) (by omega)); have RN3 := hide (hw.row (unhide RN2) (by simp; omega)); have S3 := hide hs; have X3 := hide ((unhide X2).trans hw); clear hw hs))
    have MI : Hd (BlkI g len sm w w3 F (st.enter len).next f [] none 0) := ⟨unhide HF, by omega, by simp; omega, (unhide HR).go (unhide X3) (unhide S3), unhide X3, unhide RB3, by have h := unhide RN3; rw [size_alloc] at h; exact h, HoldB.nil _ _⟩
    clear RB RN X1 RB2 RN2 S2 X2 RB3 RN3 S3 X3 HF HE HN HS
    generalize (st.enter len).next = st3 at *
    go_loopw [] (fun wr => ∃ (acc : List PN) (ao : Option Addr) (cap : Nat) (stc : PS) (j : Nat), Hd (BlkI g len sm w wr F stc j acc ao cap) ∧ stc.ts.length < st.ts.length) (fun wr => leftN g wr)
    case atStart => exact ⟨_, _, _, st3, f, MI, hl0⟩
    case round =>
      clear MI
      obtain ⟨acc, ao, cap, stc, j, hM, hle⟩ := hrel
      have hfu := (unhide hM).fuel
      obtain ⟨j, rfl⟩ : ∃ i, j = i + 1 := ⟨j - 1, by omega⟩
      have HEn := hide (ended_any len g stc wr (unhide hM).rs.st)
      have HSg := hide (fun W (x : Ext wr W) => isSign_any len g stc ⟨#[125]⟩ W ((unhide hM).rs.st.ext x))
      have HG := hide (fun W (x : St W g len stc) => psign_any len g stc ⟨#[125]⟩ W x)
      cases hz : ((stc.ts.length : Int) == 0)
      · rw [hz] at HEn
        cases hb : stc.isS ⟨#[125]⟩
        · rw [hb] at HSg
          have hstop : stc.stop = false := by unfold PS.stop; rw [hz, hb]; rfl
          have hF2 : F = blkLoop sm j (acc ++ [(sm stc).1]) (sm stc).2 := by rw [(unhide hM).eq, blkLoop, hstop]; rfl
          have HF2 := hide hF2
          have HX1 := hide (unhide HX stc hle)
          have hl1 := unhide HLT stc (fun e => by rw [e] at hz; simp at hz)
          have hm0 : leftN g wr = stc.ts.length := left_st (unhide hM).rs.st
          have hbd := (unhide hM).bnd
          clear hF2 hstop hz hb HG
          unfold ExIs at HX1
          generalize sm stc = q at HX1 HF2 hl1
          obtain ⟨⟨k, o, s, n, l⟩, st5⟩ := q
          obtain ⟨xs, hx⟩ := (unhide hM).hold.own
          have HXS := hide (fun w2 (x : Gr g wr w2) => heldB_on hx x (by omega))
          clear hx
          generalize hA : acc.length = A at *
          have hr3 : w.heap.size + 1 < wr.heap.size := (Array.getElem?_eq_some_iff.1 (unhide hM).r3).1
          go_wp2_with (first
            | (go_at_call 18; refine Calls.mono (unhide HEn) ?_; rintro e w4 ⟨rfl, hw⟩; obtain rfl := hw.symm)
            | (go_at_call 49; refine Calls.mono (unhide HSg _ (Ext.refl _)) ?_; rintro e w4 ⟨rfl, hw⟩; have X4 := hide hw; have RF := hide (hw.row (unhide hM).r3); have d0 := rowC (unhide RF) 0 rfl; have d1 := rowC (unhide RF) 1 rfl; have d2 := rowC (unhide RF) 2 rfl; have d3 := rowC (unhide RF) 3 rfl; have d4 := rowC (unhide RF) 4 rfl; have hb4 : wr.heap.size ≤ w4.heap.size := hw.le; clear hw))
          have D0 : Hd (Gr g wr w4.drew) := (Gr.of (unhide X4)).drew
          have D1 : Hd (Rs w4.drew g len stc) := (unhide hM).rs.ext (Ext.drew (unhide X4))
          refine wp_nrm ?_
          first | skip; go_region_law (first
            | (refine step_call_one rfl 52 (.tmp 26) 38 rfl _ (by simp [Act.eval, Act.put]) (enterStm _ _) (Calls.mono (unhide HX1 _ ((unhide hM).gr.trans (unhide D0)) (unhide D1)) ?_); rintro e w5 ⟨v, rfl, hr, hs, hw⟩; rw [RepN] at hr; obtain ⟨a, c, rfl, hcap, hl⟩ := hr; have X5 := hide ((unhide D0).trans hw); have RG := hide ((unhide X5).row (unhide hM).r3 (by omega)); have d0 := rowC (unhide RG) 0 rfl; have d1 := rowC (unhide RG) 1 rfl; have d2 := rowC (unhide RG) 2 rfl; have d3 := rowC (unhide RG) 3 rfl; have d4 := rowC (unhide RG) 4 rfl; have S5 := hide hs; have L5 : Hd (RepNL w5 (Fr wr.heap.size w5.heap.size) l a) := RepNL.to (fun b hb => ⟨⟨Nat.le_trans hb4 hb.1, hb.2⟩, rfl⟩) _ _ hl; have hb5 : w.heap.size + 1 < w5.heap.size := (Array.getElem?_eq_some_iff.1 (unhide RG)).1; clear hw hs hl; refine ⟨_, rfl, ?_⟩)
            | (refine step_append_where rfl (.tmp 25) (.tmp 28) 52 rfl (w.heap.size + 2) 54 i0 (nodV 0 0 emptyB 0 (.slice none 0 0)) 5 64 Tryz.underlying52 (unhide HI) (unhide Z0) (unhide Z1) (unhide Z2) rfl (by decide) ao A cap xs (by simp [Act.eval, Act.put]) (unhide HXS _ ((unhide X5).alloc _)).1 ⟨w5.heap.size, 0, none⟩ 1 1 [.int .i64 k, .int .i64 o, .string s, .int .i64 n, .slice a l.length c] (by simp [Act.eval, Act.put]) (by decide) rfl (cells_new w5 _ _) (one_cells _ _ _ _ _ _ _) (by unfold maxLen; omega) (by omega) (by simp; omega) ?_; intro g2 cap6 w6 ho6 hg6 hw6; have RZ := hide ((below_grown (unhide HXS _ ((unhide X5).alloc _)).1 hg6 (w.heap.size + 1) (by omega) (by simp; omega)).trans ((Ext.alloc _ _).row (unhide RG))); have z0 := rowC (unhide RZ) 0 rfl; have z1 := rowC (unhide RZ) 1 rfl; have z2 := rowC (unhide RZ) 2 rfl; have z3 := rowC (unhide RZ) 3 rfl; have z4 := rowC (unhide RZ) 4 rfl; have zz := rowF (unhide RZ); have HO6 := hide ho6; have HG6 := hide hg6; have HW6 := hide hw6; clear ho6 hg6 hw6)) | fail
          all_goals
            subst hA
            have hN := BlkI.snoc (k := k) (o := o) (n := n) (s := s) (unhide HR) (unhide hM) (unhide HF2) hl1 (unhide X5) (unhide S5) hcap (unhide L5) _ (unhide HXS _ ((unhide X5).alloc _)) (unhide HO6) (unhide HG6) (by have h := unhide HW6; rw [size_alloc] at h; exact h)
            refine gen_world (F := fun W7 => Exit.inBlock 1 _ Exit.normal _ W7) ?_
            intro W7 hW7
            rw [← hW7] at hN
            have MN := hide hN
            have hm1 : leftN g W7 = st5.ts.length := left_st hN.rs.st
            clear hN hW7 HO6 HG6 HW6 RZ RG X5 S5 L5 z0 z1 z2 z3 z4 zz d0 d1 d2 d3 d4
            go_wp2_with fail
            go_roundw
            case rel => exact ⟨_, _, _, st5, j, MN, by omega⟩
            case measure => rw [hm0, hm1]; omega
        · rw [hb] at HSg
          have hstop : stc.stop = true := by unfold PS.stop; rw [hb, Bool.or_true]
          have hF2 : F = (acc, stc) := by rw [(unhide hM).eq, blkLoop, hstop]; rfl
          subst hF2
          clear hstop hz hb
          go_wp2_with (first
            | (go_at_call 18; refine Calls.mono (unhide HEn) ?_; rintro e w4 ⟨rfl, hw⟩; obtain rfl := hw.symm)
            | (go_at_call 49; refine Calls.mono (unhide HSg _ (Ext.refl _)) ?_; rintro e w5 ⟨rfl, hw⟩; have X5 := hide (Gr.of (g := g) hw); have S5 := hide ((unhide hM).rs.st.ext hw); clear hw)
            | (go_at_call 29; refine Calls.mono (unhide HG _ (unhide S5)) ?_; rintro e w6 ⟨rfl, hs, hw⟩; have X6 := hide ((unhide X5).trans hw); have RE := hide ((unhide X6).row (unhide hM).r2 (by omega)); have RF := hide ((unhide X6).row (unhide hM).r3 (by omega)); have r0 := rowC (unhide RE) 0 rfl; have r1 := rowC (unhide RE) 1 rfl; have r2 := rowC (unhide RE) 2 rfl; have r3 := rowC (unhide RE) 3 rfl; have r4 := rowC (unhide RE) 4 rfl; have rz := rowF (unhide RE); have d0 := rowC (unhide RF) 0 rfl; have d1 := rowC (unhide RF) 1 rfl; have d2 := rowC (unhide RF) 2 rfl; have d3 := rowC (unhide RF) 3 rfl; have d4 := rowC (unhide RF) 4 rfl; have S6 := hide hs; clear hw hs))
          have T6 := (unhide hM).shut hg (unhide X6) (unhide S6)
          refine leaves_cons (f := 51) (args := #[.pointer (some ⟨g, 0, none⟩)]) (by simp) (by simp [go_sem]) ?_
          refine (leave_p len g _ .returning _ ((unhide S6).set5 hg _ _ _ _ _)).mono ?_
          rintro e u' w7 ⟨rfl, rfl, hs, hw⟩
          exact ⟨_, res_node rfl _ _ w.heap.size 10 0 emptyB 0 _ rfl (hw.row (set5_row (unhide RE) _ _ _ _ _) (by omega)), T6.gr hg hw hs⟩
      · rw [hz] at HEn
        have hstop : stc.stop = true := by unfold PS.stop; rw [hz, Bool.true_or]
        have hF2 : F = (acc, stc) := by rw [(unhide hM).eq, blkLoop, hstop]; rfl
        subst hF2
        have S5 : Hd (St wr g len stc) := (unhide hM).rs.st
        have X5 : Hd (Gr g wr wr) := Gr.refl _ _
        clear hstop hz
        go_wp2_with (first
          | (go_at_call 18; refine Calls.mono (unhide HEn) ?_; rintro e w4 ⟨rfl, hw⟩; obtain rfl := hw.symm)
          | (go_at_call 29; refine Calls.mono (unhide HG _ (unhide S5)) ?_; rintro e w6 ⟨rfl, hs, hw⟩; have X6 := hide ((unhide X5).trans hw); have RE := hide ((unhide X6).row (unhide hM).r2 (by omega)); have RF := hide ((unhide X6).row (unhide hM).r3 (by omega)); have r0 := rowC (unhide RE) 0 rfl; have r1 := rowC (unhide RE) 1 rfl; have r2 := rowC (unhide RE) 2 rfl; have r3 := rowC (unhide RE) 3 rfl; have r4 := rowC (unhide RE) 4 rfl; have rz := rowF (unhide RE); have d0 := rowC (unhide RF) 0 rfl; have d1 := rowC (unhide RF) 1 rfl; have d2 := rowC (unhide RF) 2 rfl; have d3 := rowC (unhide RF) 3 rfl; have d4 := rowC (unhide RF) 4 rfl; have S6 := hide hs; clear hw hs))
        have T6 := (unhide hM).shut hg (unhide X6) (unhide S6)
        refine leaves_cons (f := 51) (args := #[.pointer (some ⟨g, 0, none⟩)]) (by simp) (by simp [go_sem]) ?_
        refine (leave_p len g _ .returning _ ((unhide S6).set5 hg _ _ _ _ _)).mono ?_
        rintro e u' w7 ⟨rfl, rfl, hs, hw⟩
        exact ⟨_, res_node rfl _ _ w.heap.size 10 0 emptyB 0 _ rfl (hw.row (set5_row (unhide RE) _ _ _ _ _) (by omega)), T6.gr hg hw hs⟩

end Go.Proofs.YtjeledllejlpcaaGreatDoor
