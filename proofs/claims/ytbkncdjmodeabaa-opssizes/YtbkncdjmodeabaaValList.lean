/- A list as a value: each of its values taken as every call takes it, the whole copied. -/
import Derived.Test.YtbkncdjmodeabaaValCopyB
import Derived.Deep.OwnRows
set_option linter.unusedSimpArgs false
set_option maxRecDepth 10000
namespace Go.Proofs.Ytbkncdjmodeabaa
open Go.RowKit

/-- The list's values as they are taken, as a value. -/
def listP (l : List PV) : PV := if 1000 ≤ l.length then nilP else cp (.mk 4 0 0 0 ⟨#[]⟩ (l.map tk))

theorem makeV (n : Nat) (hn : n < 1000) (w : World) : (Instr.makeSlice 23 (.int .i64 (n : Int)) (.int .i64 (n : Int))).run Try.prog w = .ok (.slice (some ⟨w.heap.size, 0, none⟩) n n) (w.alloc (.cells (madeCells nilV.cells (n * 5)) 25)) := by
  obtain ⟨i0, hi, hz0, hz1, hz2⟩ := info_parts infoV
  have h := run_make (P := Try.prog) w 23 25 i0 nilV Try.underlying23 hi hz0 .i64 .i64 (n : Int) (n : Int) (by omega) (by omega) (by rw [hz2]; omega) (by omega)
  rw [hz1] at h
  simpa using h

/-- The row under way: its first values are there, the rest is room. -/
structure Half (w wr : World) (g len : Nat) (ps : List PV) : Prop where
  ext : Ext w wr
  row : ∃ cur : Array Value, wr.heap[g]? = some (.cells cur 25 (0, 0)) ∧ cur.size = len * 5 ∧ ∃ xs, cur.toList.take (ps.length * 5) = xs ∧ Row5 wr (In w) ps xs

theorem Half.on {w wr w2 : World} {g len : Nat} {ps : List PV} (h : Half w wr g len ps) (he : Ext wr w2) : Half w w2 g len ps := by
  obtain ⟨cur, hg, hs, xs, hx, hr⟩ := h.row
  exact ⟨h.ext.trans he, cur, he.row hg, hs, xs, hx, Row5.to (fun b hb => ⟨hb, he.block b (Nat.lt_of_lt_of_le hb h.ext.le)⟩) hr⟩

theorem take5 (c : List Value) (j : Nat) (v0 v1 v2 v3 v4 : Value) (h : j * 5 + 5 ≤ c.length) :
    (((((c.set (j * 5) v0).set (j * 5 + 1) v1).set (j * 5 + 2) v2).set (j * 5 + 3) v3).set (j * 5 + 4) v4).take ((j + 1) * 5) = c.take (j * 5) ++ [v0, v1, v2, v3, v4] := by
  apply List.ext_getElem?
  intro i
  have e : (j + 1) * 5 = j * 5 + 5 := by omega
  rw [e, List.getElem?_take]
  simp only [List.getElem?_set, List.length_set, List.getElem?_append, List.length_take, List.getElem?_take]
  have hm : min (j * 5) c.length = j * 5 := by omega
  rw [hm]
  by_cases h1 : i < j * 5
  · rw [if_pos (by omega), if_neg (by omega), if_neg (by omega), if_neg (by omega), if_neg (by omega), if_neg (by omega), if_pos h1, if_pos h1]
  · rw [if_neg h1]
    by_cases h2 : i < j * 5 + 5
    · obtain ⟨d, rfl⟩ : ∃ d, i = j * 5 + d := ⟨i - j * 5, by omega⟩
      have hd : d < 5 := by omega
      rw [if_pos h2, Nat.add_sub_cancel_left]
      match d, hd with
      | 0, _ => simp; omega
      | 1, _ => simp; omega
      | 2, _ => simp; omega
      | 3, _ => simp; omega
      | 4, _ => simp; omega
    · rw [if_neg h2, List.getElem?_eq_none (by simp; omega)]

theorem Half.snoc {w wr : World} {g len : Nat} {ps : List PV} {p : PV} {a : Option Addr} {c : Nat} (h : Half w wr g len ps) (hlt : ps.length < len) (hgw : w.heap.size ≤ g)
    (hb : Bd p.k p.n p.re p.im p.s p.l.length c) (hl : RepL wr (In w) p.l a) :
    Half w (((((wr.setCell ⟨g, ps.length * 5, none⟩ (.int .i64 p.k)).setCell ⟨g, ps.length * 5 + 1, none⟩ (.int .i64 p.n)).setCell ⟨g, ps.length * 5 + 2, none⟩ (.complex .f64 p.re p.im)).setCell ⟨g, ps.length * 5 + 3, none⟩ (.string p.s)).setCell ⟨g, ps.length * 5 + 4, none⟩ (.slice a p.l.length c)) g len (ps ++ [p]) := by
  obtain ⟨cur, hg, hs, xs, hx, hr⟩ := h.row
  have hF : ∀ b, In w b → In w b ∧ (((((wr.setCell ⟨g, ps.length * 5, none⟩ (.int .i64 p.k)).setCell ⟨g, ps.length * 5 + 1, none⟩ (.int .i64 p.n)).setCell ⟨g, ps.length * 5 + 2, none⟩ (.complex .f64 p.re p.im)).setCell ⟨g, ps.length * 5 + 3, none⟩ (.string p.s)).setCell ⟨g, ps.length * 5 + 4, none⟩ (.slice a p.l.length c)).heap[b]? = wr.heap[b]? := by
    intro b hb
    have hlt : b < w.heap.size := hb
    have hne : b ≠ g := by omega
    refine ⟨hb, ?_⟩
    rw [Below.heap_setCell _ _ _ _ hne, Below.heap_setCell _ _ _ _ hne, Below.heap_setCell _ _ _ _ hne, Below.heap_setCell _ _ _ _ hne, Below.heap_setCell _ _ _ _ hne]
  refine ⟨((((h.ext.set hgw _).set hgw _).set hgw _).set hgw _).set hgw _, _, row_set (row_set (row_set (row_set (row_set hg _ _) _ _) _ _) _ _) _ _, by simpa using hs, _, ?_, Row5.snoc hb (RepL.to hF _ _ hl) (Row5.to hF hr)⟩
  have hl2 : (ps ++ [p]).length = ps.length + 1 := by simp
  rw [hl2, ← hx]
  simp only [Array.toList_setIfInBounds]
  have hfit : ps.length * 5 + 5 ≤ cur.toList.length := by
    have hc2 : cur.toList.length = len * 5 := (Array.length_toList (xs := cur)).trans hs
    omega
  have := take5 cur.toList ps.length (.int .i64 p.k) (.int .i64 p.n) (.complex .f64 p.re p.im) (.string p.s) (.slice a p.l.length c) hfit
  rw [this, hx]

theorem Half.start (w : World) (o : Obj) (n : Nat) : Half w ((w.alloc o).alloc (.cells (madeCells nilV.cells (n * 5)) 25)) (w.heap.size + 1) n [] := by
  refine ⟨(Ext.alloc _ _).trans (Ext.alloc _ _), _, ?_, size_madeCells nilV.cells (n * 5), _, rfl, ?_⟩
  · have := Go.heap_alloc_new (w.alloc o) (.cells (madeCells nilV.cells (n * 5)) 25)
    rw [heap_alloc_size] at this
    exact this
  · simp [Row5]

theorem Half.done {w wr : World} {g len : Nat} {ps : List PV} (h : Half w wr g len ps) : RepL wr (In wr) ps (some ⟨g, 0, none⟩) := by
  obtain ⟨cur, hh, hs, xs, hx, hr⟩ := h.row
  refine Row5.repL (g := g) (Array.getElem?_eq_some_iff.1 hh).1 (Row5.to (fun b hb => ⟨Nat.lt_of_lt_of_le hb h.ext.le, rfl⟩) hr) ?_
  intro j u hu
  rw [Nat.zero_add]
  refine rowC hh j ?_
  rw [← hx, List.getElem?_take] at hu
  split at hu
  · simpa using hu
  · cases hu

theorem list_any (l : List PV) (a : Option Addr) (cap : Nat) (w : World) (hl : RepL w (In w) l a) (hb : l.length * 72 ≤ 140737488355328) :
    Calls Try.prog 43 #[.slice a l.length cap] w fun e w' => ∃ v', e = .returned v' ∧ Rep w' (Fresh w w') (listP l) v' ∧ Ext w w' := by
  by_cases hbig : 1000 ≤ l.length
  · go_enter Try.func43, Try.ntmps43
    go_wp2_with (go_at_call 17; refine Calls.mono (nil_any _) ?_; rintro e w1 ⟨rfl, hw1⟩; have hx0 := hw1.box 0 rfl; have hx1 := hw1.box 1 rfl; have hx2 := hw1.box 2 rfl; have hx3 := hw1.box 3 rfl; have hx4 := hw1.box 4 rfl; have hf := hw1.boxF)
    have hE := (Ext.alloc w _).trans hw1
    refine bodyPost_ret (v := nilV) (by simp [results, Try.results43, go_sem, hx0, hx1, hx2, hx3, hx4]) rfl ⟨_, rfl, ?_, ((((hE.set (by simp) _).set (by simp) _).set (by simp) _).set (by simp) _).set (by simp) _⟩
    rw [listP, if_pos hbig]
    exact rep_nil _ _
  · have hmk := makeV l.length (by omega)
    have hq : listP l = cp (.mk 4 0 0 0 ⟨#[]⟩ (l.map tk)) := by rw [listP, if_neg hbig]
    have H := hide hl
    have hb2 : l.length < 1000 := by omega
    clear hl hbig hb
    obtain ⟨M, hM⟩ : ∃ M, M = madeCells nilV.cells (l.length * 5) := ⟨_, rfl⟩
    have hst := Half.start w (.cells #[.int .i64 0, .int .i64 0, .complex .f64 0 0, .string ⟨#[]⟩, .slice none 0 0] 25) l.length
    rw [← hM] at hmk hst
    have S := hide hst
    have Q := hide hq
    clear hst hM hq
    go_enter Try.func43, Try.ntmps43
    go_wp2_with fail
    go_loopw [15] (fun i wr => ∃ j : Nat, i = .int .i64 j ∧ j ≤ l.length ∧ Hd (Half w wr (w.heap.size + 1) l.length ((l.take j).map tk)) ∧ Hd (wr.heap[w.heap.size]? = some (.cells #[.int .i64 0, .int .i64 0, .complex .f64 0 0, .string ⟨#[]⟩, .slice none 0 0] 25 (0, 0)))) (fun i _ => l.length - (intOf i).toNat)
    case atStart => exact ⟨0, rfl, by omega, unhide S, (Ext.alloc _ _).row (Go.heap_alloc_new w _)⟩
    case round =>
      obtain ⟨j, rfl, hj, hH, hR⟩ := hrel
      by_cases hlt : j < l.length
      · have hH' := unhide hH
        obtain ⟨x, hx⟩ : ∃ x, l[j]? = some x := ⟨l[j], List.getElem?_eq_getElem hlt⟩
        have hLw : RepL wr (In w) l a := RepL.to (fun b hb => ⟨hb, hH'.ext.block b hb⟩) l a (unhide H)
        obtain ⟨b, off, a', cap', rfl, hEl⟩ := RepL.get hLw j x hx
        have h0 := hEl.c0
        have h1 := hEl.c1
        have h2 := hEl.c2
        have h3 := hEl.c3
        have h4 := hEl.c4
        obtain ⟨cur, hg, hs, -⟩ := hH'.row
        obtain ⟨u0, hu0⟩ : ∃ u, cur[j * 5]? = some u := ⟨_, Array.getElem?_eq_getElem (by omega)⟩
        obtain ⟨u1, hu1⟩ : ∃ u, cur[j * 5 + 1]? = some u := ⟨_, Array.getElem?_eq_getElem (by omega)⟩
        obtain ⟨u2, hu2⟩ : ∃ u, cur[j * 5 + 2]? = some u := ⟨_, Array.getElem?_eq_getElem (by omega)⟩
        obtain ⟨u3, hu3⟩ : ∃ u, cur[j * 5 + 3]? = some u := ⟨_, Array.getElem?_eq_getElem (by omega)⟩
        obtain ⟨u4, hu4⟩ : ∃ u, cur[j * 5 + 4]? = some u := ⟨_, Array.getElem?_eq_getElem (by omega)⟩
        have hfact : ∀ w2, Ext (wr.alloc (.cells #[.int .i64 x.k, .int .i64 x.n, .complex .f64 x.re x.im, .string x.s, .slice a' x.l.length cap'] 25)) w2 → w2.cell? ⟨w.heap.size + 1, j * 5, none⟩ = some u0 ∧ w2.cell? ⟨w.heap.size + 1, j * 5 + 1, none⟩ = some u1 ∧ w2.cell? ⟨w.heap.size + 1, j * 5 + 2, none⟩ = some u2 ∧ w2.cell? ⟨w.heap.size + 1, j * 5 + 3, none⟩ = some u3 ∧ w2.cell? ⟨w.heap.size + 1, j * 5 + 4, none⟩ = some u4 ∧ ∀ i, w2.frozen? ⟨w.heap.size + 1, i, none⟩ = false := by
          intro w2 hw2
          have hr := ((Ext.alloc _ _).trans hw2).row hg
          exact ⟨rowC hr _ hu0, rowC hr _ hu1, rowC hr _ hu2, rowC hr _ hu3, rowC hr _ hu4, rowF hr⟩
        have FA := hide hfact
        have hc := taken_val x _ (wr.alloc (.cells #[.int .i64 x.k, .int .i64 x.n, .complex .f64 x.re x.im, .string x.s, .slice a' x.l.length cap'] 25)) (Rep.to (fun b hb => ⟨Nat.lt_of_lt_of_le hb (hH'.ext.trans (Ext.alloc _ _)).le, (Ext.alloc wr _).block b (Nat.lt_of_lt_of_le hb hH'.ext.le)⟩) _ _ hEl.rep)
        have hpl : ((l.take j).map tk).length = j := by simp; omega
        have htk : (l.take (j + 1)).map tk = (l.take j).map tk ++ [tk x] := by
          obtain ⟨hj2, hx2⟩ := List.getElem?_eq_some_iff.1 hx
          rw [List.take_succ_eq_append_getElem hj2, List.map_append, hx2]
          simp
        have EL := hide hEl
        have TK := hide htk
        have PL := hide hpl
        clear hu0 hu1 hu2 hu3 hu4 hg hs hfact hEl hLw hx htk hpl hH'
        cases hO : okv x
        · rw [hO, if_neg (by decide)] at hc
          have C := hide hc
          have OK := hide hO
          clear hc hO
          go_wp2_with (go_at_call 67; refine Calls.mono (unhide C) ?_; rintro e w2 ⟨rfl, hw2⟩; obtain ⟨hy0, hy1, hy2, hy3, hy4, hyf⟩ := unhide FA w2 hw2)
          go_roundw
          case rel =>
            have hE2 := (Ext.alloc wr (.cells #[.int .i64 x.k, .int .i64 x.n, .complex .f64 x.re x.im, .string x.s, .slice a' x.l.length cap'] 25)).trans hw2
            have hH2 := (unhide hH).on hE2
            have hR2 := hE2.row (unhide hR)
            have htx : tk x = nilP := by simp [tk, unhide OK]
            have hpl := unhide PL
            refine ⟨j + 1, by go_num, by omega, ?_, ?_⟩
            · show Half _ _ _ _ _
              rw [unhide TK, htx]
              obtain ⟨ps, hps⟩ : ∃ ps, ps = (l.take j).map tk := ⟨_, rfl⟩
              rw [← hps] at hpl hH2 ⊢
              clear hps
              subst hpl
              exact Half.snoc (p := nilP) (a := none) (c := 0) hH2 hlt (by omega) ⟨by decide, by decide, by decide, by decide, by decide, by decide, by decide, by decide, by decide⟩ (by simp [nilP, PV.l, RepL])
            · unfold Hd
              have hne : w.heap.size ≠ w.heap.size + 1 := by omega
              rw [Below.heap_setCell _ _ _ _ hne, Below.heap_setCell _ _ _ _ hne, Below.heap_setCell _ _ _ _ hne, Below.heap_setCell _ _ _ _ hne, Below.heap_setCell _ _ _ _ hne]
              exact hR2
          case measure => simp [intOf]; omega
        · rw [hO, if_pos rfl] at hc
          have C := hide hc
          have OK := hide hO
          clear hc hO
          go_wp2_with (go_at_call 67; refine Calls.mono (unhide C) ?_; rintro e w2 ⟨rfl, hw2⟩; obtain ⟨hy0, hy1, hy2, hy3, hy4, hyf⟩ := unhide FA w2 hw2)
          go_roundw
          case rel =>
            have hE2 := (Ext.alloc wr (.cells #[.int .i64 x.k, .int .i64 x.n, .complex .f64 x.re x.im, .string x.s, .slice a' x.l.length cap'] 25)).trans hw2
            have hH2 := (unhide hH).on hE2
            have hR2 := hE2.row (unhide hR)
            have htx : tk x = x := by simp [tk, unhide OK]
            have hpl := unhide PL
            have hsub : RepL w2 (In w) x.l a' := RepL.to (fun b hb => ⟨hb, hE2.block b (Nat.lt_of_lt_of_le hb (unhide hH).ext.le)⟩) _ _ (unhide EL).sub
            refine ⟨j + 1, by go_num, by omega, ?_, ?_⟩
            · show Half _ _ _ _ _
              rw [unhide TK, htx]
              obtain ⟨ps, hps⟩ : ∃ ps, ps = (l.take j).map tk := ⟨_, rfl⟩
              rw [← hps] at hpl hH2 ⊢
              clear hps
              subst hpl
              exact Half.snoc hH2 hlt (by omega) (unhide EL).bd hsub
            · unfold Hd
              have hne : w.heap.size ≠ w.heap.size + 1 := by omega
              rw [Below.heap_setCell _ _ _ _ hne, Below.heap_setCell _ _ _ _ hne, Below.heap_setCell _ _ _ _ hne, Below.heap_setCell _ _ _ _ hne, Below.heap_setCell _ _ _ _ hne]
              exact hR2
          case measure => simp [intOf]; omega
      · have : j = l.length := by omega
        subst this
        have hH' := unhide hH
        rw [List.take_of_length_le (Nat.le_refl _)] at hH'
        have hL := hH'.done
        have hcp := copy_any (.mk 4 0 0 0 ⟨#[]⟩ (l.map tk)) (.agg #[.int .i64 4, .int .i64 0, .complex .f64 0 0, .string ⟨#[]⟩, .slice (some ⟨w.heap.size + 1, 0, none⟩) l.length l.length]) wr (by
          rw [Rep]
          exact ⟨some ⟨w.heap.size + 1, 0, none⟩, l.length, by simp, ⟨by decide, by decide, by decide, by decide, by decide, by decide, by decide, by simp; omega, by simp⟩, hL⟩)
        rw [← unhide Q] at hcp
        obtain ⟨q, hq⟩ : ∃ q, q = listP l := ⟨_, rfl⟩
        rw [← hq] at hcp
        have C := hide hcp
        have Q2 := hide hq
        have E := hide hH'.ext
        clear hcp hq hL hH' Q
        cases q with
        | mk k' n' re' im' s' l' =>
        go_wp2_with (go_at_call 58; refine Calls.mono (unhide C) ?_; rintro e w1 ⟨v2, rfl, hr2, hw1⟩; rw [Rep] at hr2; obtain ⟨a2, c2, rfl, hb2, hl2⟩ := hr2; have hrow := hw1.row (unhide hR); have hx0 := rowC hrow 0 rfl; have hx1 := rowC hrow 1 rfl; have hx2 := rowC hrow 2 rfl; have hx3 := rowC hrow 3 rfl; have hx4 := rowC hrow 4 rfl; have hf := rowF hrow; clear hrow)
        have hE := (unhide E).trans hw1
        have hE5 := ((((hE.set (a := ⟨w.heap.size, 0, none⟩) (by simp) (.int .i64 k')).set (a := ⟨w.heap.size, 1, none⟩) (by simp) (.int .i64 n')).set (a := ⟨w.heap.size, 2, none⟩) (by simp) (.complex .f64 re' im')).set (a := ⟨w.heap.size, 3, none⟩) (by simp) (.string s')).set (a := ⟨w.heap.size, 4, none⟩) (by simp) (.slice a2 l'.length c2)
        have hwlt : w.heap.size < wr.heap.size := (Array.getElem?_eq_some_iff.1 (unhide hR)).1
        refine bodyPost_ret (v := .agg #[.int .i64 k', .int .i64 n', .complex .f64 re' im', .string s', .slice a2 l'.length c2]) (by simp [results, Try.results43, go_sem, hx0, hx1, hx2, hx3, hx4]) rfl ⟨_, rfl, ?_, hE5⟩
        rw [← unhide Q2, Rep]
        refine ⟨a2, c2, rfl, hb2, RepL.to (fun b hb => ⟨⟨?fa, ?fb⟩, ?fc⟩) _ _ hl2⟩
        case fa => have := hb.1; omega
        case fb =>
          simp only [World.setCell, Array.size_modify]
          exact hb.2
        case fc =>
          have hne : b ≠ w.heap.size := by have := hb.1; omega
          rw [Below.heap_setCell _ _ _ _ hne, Below.heap_setCell _ _ _ _ hne, Below.heap_setCell _ _ _ _ hne, Below.heap_setCell _ _ _ _ hne, Below.heap_setCell _ _ _ _ hne]

end Go.Proofs.Ytbkncdjmodeabaa
