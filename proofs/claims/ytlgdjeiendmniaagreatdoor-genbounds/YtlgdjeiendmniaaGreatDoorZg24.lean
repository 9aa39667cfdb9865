/- What stands behind an if. -/
import Derived.Test.YtlgdjeiendmniaaGreatDoorZg22
set_option linter.unusedSimpArgs false
set_option linter.unusedVariables false
set_option maxRecDepth 10000

namespace Go.Proofs.YtlgdjeiendmniaaGreatDoor
open Go.RowKit

theorem enterOth (v : Value) (w : World) : (callFunc 158 #[v]).run Tryz.prog w = .ok (.enter 158 #[v]) w := by kernel_rfl

/-- Two trees in a block of their own are a row of it. -/
theorem pair_own {W : World} {B : Nat} {xs : List Value} (h : W.heap[B]? = some (.cells xs.toArray 60 (0, 0))) (hx : xs.length = 10) : W.ownsRow B 60 5 (.slice (some ⟨B, 0, none⟩) 2 2) 2 xs :=
  ⟨hx, .inr ⟨B, 2, xs.toArray, rfl, Nat.le_refl _, h, Nat.le_refl _, by decide, by simp [hx], by simp [← hx]⟩⟩

set_option maxHeartbeats 1000000 in
theorem cho_shut {g len : Nat} {w w2 w5 w6 : World} {st5 : PS} {k o n k2 o2 n2 k3 o3 n3 : Int} {s s2 s3 : ByteArray} {l l2 l3 : List PN} {a a2 a3 : Option Addr} {cap cap2 cap3 g' cap' : Nat} (ob nb ob3 : Obj)
    (hg : g < w.heap.size) (hlt2 : w.heap.size < w2.heap.size) (X2 : Gr g w w2) (L1 : RepNL w2 (fun b => w.heap.size < b ∧ b < w2.heap.size) l a) (c1 : l.length ≤ cap) (L2 : RepNL w2 (fun b => w.heap.size < b ∧ b < w2.heap.size) l2 a2) (c2 : l2.length ≤ cap2)
    (X5 : Gr g ((w2.alloc ob).alloc nb) w5) (S5 : St w5 g len st5) (L5 : RepNL w5 (fun b => w2.heap.size + 2 ≤ b ∧ b < w5.heap.size) l3 a3) (c3 : l3.length ≤ cap3)
    (r0 : w5.heap[w.heap.size]? = some (nodO 0 0 emptyB 0 (.slice none 0 0))) (r3 : w5.heap[w2.heap.size + 1]? = some (nodO 3 0 emptyB 0 (.slice (some ⟨w2.heap.size, 0, none⟩) 2 2)))
    (hown : (w5.alloc ob3).ownsRow w2.heap.size 60 5 (.slice (some ⟨w2.heap.size, 0, none⟩) 2 2) 2 [.int .i64 k, .int .i64 o, .string s, .int .i64 n, .slice a l.length cap, .int .i64 k2, .int .i64 o2, .string s2, .int .i64 n2, .slice a2 l2.length cap2])
    (ho : w6.ownsRow w2.heap.size 60 5 (.slice (some ⟨g', 0, none⟩) 3 cap') 3 ([.int .i64 k, .int .i64 o, .string s, .int .i64 n, .slice a l.length cap, .int .i64 k2, .int .i64 o2, .string s2, .int .i64 n2, .slice a2 l2.length cap2] ++ [.int .i64 k3, .int .i64 o3, .string s3, .int .i64 n3, .slice a3 l3.length cap3]))
    (hgw : (w5.alloc ob3).grownBy w6 (Value.slice (some ⟨w2.heap.size, 0, none⟩) 2 2).ownBlock) (hw : (Value.slice (some ⟨w2.heap.size, 0, none⟩) 2 2).ownBlock = some g' ∨ (w5.alloc ob3).heap.size ≤ g') :
    Tree g len w (⟨3, 0, emptyB, 0, [⟨k, o, s, n, l⟩, ⟨k2, o2, s2, n2, l2⟩, ⟨k3, o3, s3, n3, l3⟩]⟩, st5) (.returned (nodV 3 0 emptyB 0 (.slice (some ⟨g', 0, none⟩) 3 cap'))) (set5 (w6.setCell ⟨w2.heap.size + 1, 4, none⟩ (.slice (some ⟨g', 0, none⟩) 3 cap')) w.heap.size 3 0 emptyB 0 (.slice (some ⟨g', 0, none⟩) 3 cap')) ∧
      (w6.setCell ⟨w2.heap.size + 1, 4, none⟩ (.slice (some ⟨g', 0, none⟩) 3 cap')).heap[w.heap.size]? = some (nodO 0 0 emptyB 0 (.slice none 0 0)) ∧ (w6.setCell ⟨w2.heap.size + 1, 4, none⟩ (.slice (some ⟨g', 0, none⟩) 3 cap')).heap[w2.heap.size + 1]? = some (nodO 3 0 emptyB 0 (.slice (some ⟨g', 0, none⟩) 3 cap')) := by
  have hz5 : (w5.alloc ob3).heap.size = w5.heap.size + 1 := size_alloc _ _
  have hzz : ((w2.alloc ob).alloc nb).heap.size = w2.heap.size + 2 := by rw [size_alloc, size_alloc]
  have hs5 := X5.size
  have hgs := hgw.size
  have hk := below_grown hown hgw
  have kA : ∀ b, b < w5.heap.size → b ≠ w2.heap.size → w6.heap[b]? = w5.heap[b]? := fun b hb hne => (hgw.block b (by omega) (by simp [Value.ownBlock]; exact hne)).trans ((Ext.alloc w5 ob3).block b hb)
  have hg' : g' < w6.heap.size := (ho.lt g' rfl).2
  have hgb : w2.heap.size ≤ g' := (ho.lt g' rfl).1
  have hgn : g' ≠ w2.heap.size + 1 := by
    rcases hw with e | e
    · simp only [Value.ownBlock, Option.some.injEq] at e; omega
    · omega
  have G6 : Gr g w w6 := Gr.append ((((X2.alloc ob).alloc nb).trans X5).alloc ob3) hown (by omega) hgw
  have S6 : St w6 g len st5 := (S5.alloc ob3).append (by omega) hown hgw
  have S7 := S6.set (b := w2.heap.size + 1) (by omega) 4 (.slice (some ⟨g', 0, none⟩) 3 cap')
  have G7 := G6.set (p := ⟨w2.heap.size + 1, 4, none⟩) (Or.inl (by show w.heap.size ≤ w2.heap.size + 1; omega)) (.slice (some ⟨g', 0, none⟩) 3 cap')
  have R0 := row_other (w := w6) ((kA _ (by omega) (by omega)).trans r0) (b := w2.heap.size + 1) (by omega) 4 (.slice (some ⟨g', 0, none⟩) 3 cap')
  have R3 := row_set (w := w6) ((kA _ (by omega) (by omega)).trans r3) 4 (.slice (some ⟨g', 0, none⟩) 3 cap')
  have kB : ∀ b, b ≠ w2.heap.size + 1 → (w6.setCell ⟨w2.heap.size + 1, 4, none⟩ (.slice (some ⟨g', 0, none⟩) 3 cap')).heap[b]? = w6.heap[b]? := fun b hb => Below.heap_setCell _ _ _ _ hb
  have zB : (w6.setCell ⟨w2.heap.size + 1, 4, none⟩ (.slice (some ⟨g', 0, none⟩) 3 cap')).heap.size = w6.heap.size := by simp [World.setCell]
  have cB : ∀ j u, ([.int .i64 k, .int .i64 o, .string s, .int .i64 n, .slice a l.length cap, .int .i64 k2, .int .i64 o2, .string s2, .int .i64 n2, .slice a2 l2.length cap2] ++ [.int .i64 k3, .int .i64 o3, .string s3, .int .i64 n3, .slice a3 l3.length cap3] : List Value)[j]? = some u → (w6.setCell ⟨w2.heap.size + 1, 4, none⟩ (.slice (some ⟨g', 0, none⟩) 3 cap')).cell? ⟨g', 0 + j, none⟩ = some u := fun j u hu => by
    rw [World.cell?_of_block (w := w6) (kB g' hgn)]
    exact cells_own ho j u hu
  generalize w6.setCell ⟨w2.heap.size + 1, 4, none⟩ (.slice (some ⟨g', 0, none⟩) 3 cap') = W7 at *
  have kC : ∀ b, (w.heap.size < b ∧ b < w2.heap.size) → (w.heap.size < b ∧ b < W7.heap.size) ∧ W7.heap[b]? = w2.heap[b]? := fun b hb =>
    ⟨⟨hb.1, by omega⟩, (kB b (by omega)).trans ((kA b (by omega) (by omega)).trans ((X5.block b (by omega) (by omega)).trans (((Ext.alloc _ nb).block b (by rw [size_alloc]; omega)).trans ((Ext.alloc w2 ob).block b hb.2))))⟩
  have kD : ∀ b, (w2.heap.size + 2 ≤ b ∧ b < w5.heap.size) → (w.heap.size < b ∧ b < W7.heap.size) ∧ W7.heap[b]? = w5.heap[b]? := fun b hb =>
    ⟨⟨by omega, by omega⟩, (kB b (by omega)).trans (kA b hb.2 (by omega))⟩
  refine ⟨tree_end (l := [⟨k, o, s, n, l⟩, ⟨k2, o2, s2, n2, l2⟩, ⟨k3, o3, s3, n3, l3⟩]) hg S7 G7 ?_ (RowN.repL (g := g') (off := 0) ⟨by omega, by omega⟩ ⟨a, cap, _, rfl, c1, RepNL.to kC _ _ L1, a2, cap2, _, rfl, c2, RepNL.to kC _ _ L2, a3, cap3, _, rfl, c3, RepNL.to kD _ _ L5, rfl⟩ cB), R0, R3⟩
  rcases ho.2 with ⟨_, h0⟩ | ⟨_, _, _, e, _, _, hc, _⟩
  · omega
  · injection e with _ _ e; subst e; exact hc

set_option maxHeartbeats 1000000 in
theorem cho_any (len g : Nat) (ex bl ot : Rdr) (st : PS) (w : World) (hR : Rs w g len st) (hex : ExIs g len 147 ex st w) (hbl : ExIs g len 79 bl (ex st).2 w) (hot : (bl (ex st).2).2.isW ⟨#[101, 108, 115, 101]⟩ = true → ExIs g len 158 ot (bl (ex st).2).2.next w) :
    Calls Tryz.prog 146 #[.pointer (some ⟨g, 0, none⟩)] w (Tree g len w (choP ex bl ot st)) := by
  have hg : g < w.heap.size := hR.st.lt
  unfold choP
  have HX := hide hex
  have HB := hide hbl
  have HO := hide hot
  have HR := hide hR
  clear hR hex hbl hot
  unfold ExIs at HX HB HO
  generalize ex st = q at *
  obtain ⟨⟨k, o, s, n, l⟩, st1⟩ := q
  simp only at HB HO ⊢
  generalize bl st1 = q2 at *
  obtain ⟨⟨k2, o2, s2, n2, l2⟩, st2⟩ := q2
  simp only at HO ⊢
  cases hb : st2.isW ⟨#[101, 108, 115, 101]⟩
  · rw [if_neg (by decide)]
    clear HO
    go_enter Tryz.func146, Tryz.ntmps146
    go_wp2_with (first
      | (go_at_call 147; refine Calls.mono (unhide HX _ (Gr.of (Ext.alloc _ _)) ((unhide HR).alloc _)) ?_; rintro e w1 ⟨v, rfl, hr, hs, hw⟩; rw [RepN] at hr; obtain ⟨a, cap, rfl, hcap, hl⟩ := hr; have RB := hide (hw.row (Go.heap_alloc_new w _) (by omega)); have S1 := hide hs; have L1 := hide hl; have X1 := hide ((Gr.of (Ext.alloc _ _)).trans hw); have hlt1 : w.heap.size < w1.heap.size := (Array.getElem?_eq_some_iff.1 (unhide RB)).1; clear hw hs hl)
      | (go_at_call 79; refine Calls.mono (unhide HB _ (unhide X1) ((unhide HR).go (unhide X1) (unhide S1))) ?_; rintro e w2 ⟨v, rfl, hr, hs, hw⟩; rw [RepN] at hr; obtain ⟨a2, cap2, rfl, hcap2, hl⟩ := hr; have RC := hide (hw.row (unhide RB) (by omega)); have S2 := hide hs; have L2 : Hd (RepNL w2 (fun b => w.heap.size < b ∧ b < w2.heap.size) l a) := (unhide L1).gr hw (by simp; omega) (by simp); have K2 : Hd (RepNL w2 (fun b => w.heap.size < b ∧ b < w2.heap.size) l2 a2) := hl.gr (Gr.refl g _) (by omega) (by omega); have X2 := hide ((unhide X1).trans hw); have hlt2 : w.heap.size < w2.heap.size := (Array.getElem?_eq_some_iff.1 (unhide RC)).1; clear hw hs hl)
      | (go_at_call 109; refine Calls.mono (takeW_no len g st2 _ _ hb (((unhide S2).alloc _).alloc _)) ?_; rintro e w3 ⟨rfl, hs, hw⟩; have RD := hide (hw.row ((Ext.alloc _ _).row ((Ext.alloc _ _).row (unhide RC))) (by omega)); have RI := hide (hw.row ((Ext.alloc _ _).row (Go.heap_alloc_new w2 _)) (by omega)); have RN := hide (hw.row (Go.heap_alloc_new (w2.alloc _) _) (by simp; omega)); have r0 := rowC (unhide RD) 0 rfl; have r1 := rowC (unhide RD) 1 rfl; have r2 := rowC (unhide RD) 2 rfl; have r3 := rowC (unhide RD) 3 rfl; have r4 := rowC (unhide RD) 4 rfl; have rz := rowF (unhide RD); have d0 := rowC (unhide RN) 0 rfl; have d1 := rowC (unhide RN) 1 rfl; have d2 := rowC (unhide RN) 2 rfl; have d3 := rowC (unhide RN) 3 rfl; have d4 := rowC (unhide RN) 4 rfl; simp only [size_alloc] at d0 d1 d2 d3 d4; have S3 := hide hs; have X3 := hide hw; have hlt3 : w2.heap.size + 1 < w3.heap.size := (by have h := (Array.getElem?_eq_some_iff.1 (unhide RN)).1; rw [size_alloc] at h; exact h); clear hw hs))
    have G3 : Gr g w2 w3 := (((Gr.refl g w2).alloc _).alloc _).trans (unhide X3)
    have kC : ∀ b, (w.heap.size < b ∧ b < w2.heap.size) → (w.heap.size < b ∧ b < w3.heap.size) ∧ w3.heap[b]? = w2.heap[b]? := fun b h => ⟨⟨h.1, by omega⟩, G3.block b h.2 (by omega)⟩
    have T4 := tree_end (l := [⟨k, o, s, n, l⟩, ⟨k2, o2, s2, n2, l2⟩]) hg (unhide S3) ((unhide X2).trans G3) (Nat.le_refl 2) (pair_rep (F := fun b => w.heap.size < b ∧ b < w3.heap.size) (unhide RI) ⟨hlt2, by omega⟩ hcap hcap2 (RepNL.to kC _ _ (unhide L2)) (RepNL.to kC _ _ (unhide K2))) (k := 3) (o := 0) (n := 0) (s := emptyB)
    exact bodyPost_ret (v := nodV 3 0 emptyB 0 (.slice (some ⟨w2.heap.size, 0, none⟩) 2 2)) (by simp [results, Tryz.results146, go_sem, r0, r1, r2, r3, r4]) rfl T4
  · rw [if_pos rfl]
    replace HO := hide (unhide HO hb)
    generalize ot st2.next = q3 at *
    obtain ⟨⟨k3, o3, s3, n3, l3⟩, st3⟩ := q3
    obtain ⟨i0, hi, hz0, hz1, hz2⟩ := info_parts infoN
    have HI := hide hi
    have Z0 := hide hz0
    have Z1 := hide hz1
    have Z2 := hide hz2
    clear hi hz0 hz1 hz2
    go_enter Tryz.func146, Tryz.ntmps146
    go_wp2_with (first
      | (go_at_call 147; refine Calls.mono (unhide HX _ (Gr.of (Ext.alloc _ _)) ((unhide HR).alloc _)) ?_; rintro e w1 ⟨v, rfl, hr, hs, hw⟩; rw [RepN] at hr; obtain ⟨a, cap, rfl, hcap, hl⟩ := hr; have RB := hide (hw.row (Go.heap_alloc_new w _) (by omega)); have S1 := hide hs; have L1 := hide hl; have X1 := hide ((Gr.of (Ext.alloc _ _)).trans hw); have hlt1 : w.heap.size < w1.heap.size := (Array.getElem?_eq_some_iff.1 (unhide RB)).1; clear hw hs hl)
      | (go_at_call 79; refine Calls.mono (unhide HB _ (unhide X1) ((unhide HR).go (unhide X1) (unhide S1))) ?_; rintro e w2 ⟨v, rfl, hr, hs, hw⟩; rw [RepN] at hr; obtain ⟨a2, cap2, rfl, hcap2, hl⟩ := hr; have RC := hide (hw.row (unhide RB) (by omega)); have S2 := hide hs; have L2 : Hd (RepNL w2 (fun b => w.heap.size < b ∧ b < w2.heap.size) l a) := (unhide L1).gr hw (by simp; omega) (by simp); have K2 : Hd (RepNL w2 (fun b => w.heap.size < b ∧ b < w2.heap.size) l2 a2) := hl.gr (Gr.refl g _) (by omega) (by omega); have X2 := hide ((unhide X1).trans hw); have hlt2 : w.heap.size < w2.heap.size := (Array.getElem?_eq_some_iff.1 (unhide RC)).1; clear hw hs hl)
      | (go_at_call 109; refine Calls.mono (takeW_yes len g st2 _ _ hb (((unhide S2).alloc _).alloc _)) ?_; rintro e w3 ⟨rfl, hs, hw⟩; have RD := hide (hw.row ((Ext.alloc _ _).row ((Ext.alloc _ _).row (unhide RC))) (by omega)); have RI := hide (hw.row ((Ext.alloc _ _).row (Go.heap_alloc_new w2 _)) (by omega)); have RN := hide (hw.row (Go.heap_alloc_new (w2.alloc _) _) (by simp; omega)); have r0 := rowC (unhide RD) 0 rfl; have r1 := rowC (unhide RD) 1 rfl; have r2 := rowC (unhide RD) 2 rfl; have r3 := rowC (unhide RD) 3 rfl; have r4 := rowC (unhide RD) 4 rfl; have rz := rowF (unhide RD); have d0 := rowC (unhide RN) 0 rfl; have d1 := rowC (unhide RN) 1 rfl; have d2 := rowC (unhide RN) 2 rfl; have d3 := rowC (unhide RN) 3 rfl; have d4 := rowC (unhide RN) 4 rfl; simp only [size_alloc] at d0 d1 d2 d3 d4; have S3 := hide hs; have X3 := hide hw; have hlt3 : w2.heap.size + 1 < w3.heap.size := (by have h := (Array.getElem?_eq_some_iff.1 (unhide RN)).1; rw [size_alloc] at h; exact h); clear hw hs))
    have D0 : Hd (Gr g w w3.drew) := ((((unhide X2).alloc _).alloc _).trans (unhide X3)).drew
    have D1 : Hd (Rs w3.drew g len st2.next) := ((unhide HR).go ((((unhide X2).alloc _).alloc _).trans (unhide X3)) (unhide S3)).ext (Ext.drew (Ext.refl _))
    refine wp_nrm ?_
    first | skip; go_region_law (first
      | (refine step_call_one rfl 158 (.tmp 14) 77 rfl _ (by simp [Act.eval, Act.put]) (enterOth _ _) (Calls.mono (unhide HO _ (unhide D0) (unhide D1)) ?_); rintro e w5 ⟨v, rfl, hr, hs, hw⟩; rw [RepN] at hr; obtain ⟨a3, cap3, rfl, hcap3, hl⟩ := hr; have X5 := hide ((unhide X3).trans (Gr.drew_of hw)); have RE := hide ((Gr.drew_of hw).row (unhide RD) (by omega)); have RJ := hide ((Gr.drew_of hw).row (unhide RI) (by omega)); have RG := hide ((Gr.drew_of hw).row (unhide RN) (by simp; omega)); have d0 := rowC (unhide RG) 0 rfl; have d1 := rowC (unhide RG) 1 rfl; have d2 := rowC (unhide RG) 2 rfl; have d3 := rowC (unhide RG) 3 rfl; have d4 := rowC (unhide RG) 4 rfl; simp only [size_alloc] at d0 d1 d2 d3 d4; have S5 := hide hs; have L5 : Hd (RepNL w5 (fun b => w2.heap.size + 2 ≤ b ∧ b < w5.heap.size) l3 a3) := RepNL.to (fun b hb => ⟨⟨by have h : w3.heap.size ≤ b := hb.1; omega, hb.2⟩, rfl⟩) _ _ hl; have hb5 : w2.heap.size + 1 < w5.heap.size := Nat.lt_of_lt_of_le hlt3 hw.size; have PO : Hd (∀ ob : Obj, (w5.alloc ob).ownsRow w2.heap.size 60 5 (.slice (some ⟨w2.heap.size, 0, none⟩) 2 2) 2 [.int .i64 k, .int .i64 o, .string s, .int .i64 n, .slice a l.length cap, .int .i64 k2, .int .i64 o2, .string s2, .int .i64 n2, .slice a2 l2.length cap2]) := (fun ob => pair_own (xs := [.int .i64 k, .int .i64 o, .string s, .int .i64 n, .slice a l.length cap, .int .i64 k2, .int .i64 o2, .string s2, .int .i64 n2, .slice a2 l2.length cap2]) ((Ext.alloc _ _).row (unhide RJ)) rfl); clear hw hs hl; refine ⟨_, rfl, ?_⟩)
      | (refine step_append_where rfl (.tmp 13) (.tmp 16) 58 rfl w2.heap.size 60 i0 (nodV 0 0 emptyB 0 (.slice none 0 0)) 5 64 Tryz.underlying58 (unhide HI) (unhide Z0) (unhide Z1) (unhide Z2) rfl (by decide) (some ⟨w2.heap.size, 0, none⟩) 2 2 [.int .i64 k, .int .i64 o, .string s, .int .i64 n, .slice a l.length cap, .int .i64 k2, .int .i64 o2, .string s2, .int .i64 n2, .slice a2 l2.length cap2] (by simp [Act.eval, Act.put]) (unhide PO _) ⟨w5.heap.size, 0, none⟩ 1 1 [.int .i64 k3, .int .i64 o3, .string s3, .int .i64 n3, .slice a3 l3.length cap3] (by simp [Act.eval, Act.put]) (by decide) rfl (cells_new w5 _ _) (one_cells _ _ _ _ _ _ _) (by unfold maxLen; omega) (by omega) (by simp; omega) ?_; intro g2 cap6 w6 ho6 hg6 hw6; have RH := unhide RG; rw [size_alloc] at RH; have CS := hide (cho_shut _ _ _ hg hlt2 (unhide X2) (unhide L2) hcap (unhide K2) hcap2 (unhide X5) (unhide S5) (unhide L5) hcap3 (unhide RE) RH (unhide PO _) ho6 hg6 hw6); have RZ : w6.heap[w2.heap.size + 1]? = some (nodO 3 0 emptyB 0 (.slice (some ⟨w2.heap.size, 0, none⟩) 2 2)) := (hg6.block _ (by simp; omega) (by simp [Value.ownBlock])).trans (((Ext.alloc _ _).block _ (by omega)).trans RH); have z4 := rowC RZ 4 rfl; have zz := rowF RZ; clear RZ RH ho6 hg6 hw6)) | fail
    all_goals
      simp only [Nrm]
      refine gen_world (F := fun W7 => Exit.then _ _ Exit.normal _ W7) ?_
      intro W7 hW7
      have hC := unhide CS
      rw [← hW7] at hC
      obtain ⟨hT, hr0, hr3⟩ := hC
      have r0 := rowC hr0 0 rfl
      have r1 := rowC hr0 1 rfl
      have r2 := rowC hr0 2 rfl
      have r3 := rowC hr0 3 rfl
      have r4 := rowC hr0 4 rfl
      have rz := rowF hr0
      have d0 := rowC hr3 0 rfl
      have d1 := rowC hr3 1 rfl
      have d2 := rowC hr3 2 rfl
      have d3 := rowC hr3 3 rfl
      have d4 := rowC hr3 4 rfl
      have HT := hide hT
      clear hT hr0 hr3 hW7 CS RE RJ RG S5 L5 X5 RD RI RN S3 X3 D0 D1
      go_wp2_with fail
      exact bodyPost_ret (v := nodV 3 0 emptyB 0 (.slice (some ⟨g2, 0, none⟩) 3 cap6)) (by simp [results, Tryz.results146, go_sem, r0, r1, r2, r3, r4]) rfl (unhide HT)

end Go.Proofs.YtlgdjeiendmniaaGreatDoor
