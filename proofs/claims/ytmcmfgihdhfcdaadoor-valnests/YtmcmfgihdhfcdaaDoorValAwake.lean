/- What the document fixes: the law's own test of the example. -/
import Derived.Test.YtmcmfgihdhfcdaaDoorValPlain
set_option linter.unusedSimpArgs false
set_option maxRecDepth 10000
namespace Go.Proofs.YtmcmfgihdhfcdaaDoor
open Go.RowKit

theorem repL_two {w : World} {p q : PV} {ap aq : Option Addr} {c1 c2 : Nat} {t : TypeId} (hp : Bd p.k p.n p.re p.im p.s p.l.length c1) (hpl : RepL w (In w) p.l ap) (hq : Bd q.k q.n q.re q.im q.s q.l.length c2) (hql : RepL w (In w) q.l aq) :
    RepL (w.alloc (.cells #[.int .i64 p.k, .int .i64 p.n, .complex .f64 p.re p.im, .string p.s, .slice ap p.l.length c1, .int .i64 q.k, .int .i64 q.n, .complex .f64 q.re q.im, .string q.s, .slice aq q.l.length c2] t))
      (In (w.alloc (.cells #[.int .i64 p.k, .int .i64 p.n, .complex .f64 p.re p.im, .string p.s, .slice ap p.l.length c1, .int .i64 q.k, .int .i64 q.n, .complex .f64 q.re q.im, .string q.s, .slice aq q.l.length c2] t))) [p, q] (some ⟨w.heap.size, 0, none⟩) := by
  refine RepL.cons (a := ap) (cap := c1) ⟨by simp [In], cell_box w _ t 0 rfl, cell_box w _ t 1 rfl, cell_box w _ t 2 rfl, cell_box w _ t 3 rfl, cell_box w _ t 4 rfl, hp, hpl.ext (Ext.alloc _ _)⟩ ?_
  refine RepL.cons (a := aq) (cap := c2) ⟨by simp [In], cell_box w _ t 5 rfl, cell_box w _ t 6 rfl, cell_box w _ t 7 rfl, cell_box w _ t 8 rfl, cell_box w _ t 9 rfl, hq, hql.ext (Ext.alloc _ _)⟩ ?_
  simp [RepL]

/-- The example's list. -/
def exP : PV := ls [it 1, tx ⟨#[97]⟩]

theorem ex_sz : sz exP 0 = 4 := by
  have : sz exP 0 = 1 + sz (it 1) 1 + sz (tx ⟨#[97]⟩) 1 := sz_two _ _ (by rw [sz_it, sz_tx]; decide)
  rw [this, sz_it, sz_tx]
  decide
theorem ex_ok : okv exP = true := okv_two _ _ (by rw [sz_it, sz_tx]; decide) (wfv_it 1) (wfv_tx _)
theorem ex_tk : tk exP = exP := by rw [tk, ex_ok]; rfl
theorem ex_list : listP [it 1, tx ⟨#[97]⟩] = exP := by
  have ht : tk (tx ⟨#[97]⟩) = tx ⟨#[97]⟩ := by rw [tk_tx]; rfl
  rw [listP_two _ _ (by rw [tk_it, norm_it]) (by rw [ht, norm_tx]) (by rw [tk_it, wfv_it]) (by rw [ht, wfv_tx]), tk_it, ht, sz_it, sz_tx, if_pos (by decide)]
  rfl
theorem ex_text : textP ⟨#[97]⟩ = tx ⟨#[97]⟩ := by rw [textP_eq]; rfl

theorem ex_show (v : Value) (w : World) (hr : Rep w (In w) exP v) (ht : Tab w.heap.size w) : Calls Tryd.prog 15 #[v] w fun e w' => e = .returned (.string ⟨#[91, 49, 44, 32, 34, 97, 34, 93]⟩) ∧ Ext w w' := by
  have h := show_any exP v w hr ht (by rw [ex_tk, exP, sh_awake]; decide)
  rw [ex_tk, exP, sh_awake] at h
  exact h
theorem ex_truth (v : Value) (w : World) (hr : Rep w (In w) exP v) : Calls Tryd.prog 9 #[v] w fun e w' => e = .returned (.bool true) ∧ Ext w w' := by
  have h := truth_any exP v w hr
  rw [ex_tk, show truev exP = true by simp [truev, exP, ls, PV.l]] at h
  exact h
theorem ex_okc (v : Value) (w : World) (hr : Rep w (In w) exP v) : Calls Tryd.prog 8 #[v] w fun e w' => e = .returned (.bool true) ∧ Ext w w' := by
  have h := okv_any exP v w hr
  rw [ex_ok] at h
  exact h
theorem ex_size (v : Value) (w : World) (hr : Rep w (In w) exP v) : Calls Tryd.prog 6 #[v] w fun e w' => e = .returned (.int .i64 4) ∧ Ext w w' := by
  have h := top_any exP v w hr
  rw [ex_sz] at h
  exact h

theorem vawake_any (w : World) (ht : Tab w.heap.size w) : Calls Tryd.prog 7 #[] w fun e w' => e = .returned (.bool true) ∧ Ext w w' := by
  have T := hide ht
  clear ht
  go_enter Tryd.func7, Tryd.ntmps7
  go_wp2_with (first
    | (go_at_call 12; refine Calls.mono (int_any _ _) ?_; rintro e w1 ⟨rfl, hw1⟩; have W1 := hide hw1; clear hw1)
    | (go_at_call 5; refine Calls.mono (valtext_any _ _ (by decide)) ?_; rintro e w2 ⟨v2, rfl, hr2, hw2⟩; rw [ex_text, tx, Rep] at hr2; obtain ⟨a2, c2, rfl, hb2, hl2⟩ := hr2; have W2 := hide hw2; have B2 := hide hb2; clear hw2 hb2 hl2)
    | (go_at_call 11; refine Calls.mono (list_any [it 1, tx ⟨#[97]⟩] _ 2 _ (repL_two (p := it 1) (q := tx ⟨#[97]⟩) (ap := none) (c1 := 0) (aq := a2) (c2 := c2) (bd0 (by decide) (by decide) (by decide) (by decide) (by decide) (by decide) (by decide)) (by simp [it, PV.l, RepL]) (unhide B2) (by simp [tx, PV.l, RepL])) (by decide)) ?_; rintro e w3 ⟨v3, rfl, hr3, hw3⟩; rw [ex_list] at hr3; have hr4 := Fresh.in hr3; have hr5 := hr4; rw [exP, ls, Rep] at hr5; obtain ⟨a3, c3, rfl, -, -⟩ := hr5; have R3 := hide hr4; have W3 := hide (((unhide W1).trans (unhide W2)).trans ((Ext.alloc _ _).trans hw3)); clear hr3 hr4 hw3)
    | (go_at_call 15; refine Calls.mono (ex_show _ _ ((unhide R3).ext (Ext.alloc _ _)) (tab_up (unhide T) ((unhide W3).trans (Ext.alloc _ _)))) ?_; rintro e w5 ⟨rfl, hw5⟩; have hx0 := hw5.box 0 rfl; have hx1 := hw5.box 1 rfl; have hx2 := hw5.box 2 rfl; have hx3 := hw5.box 3 rfl; have hx4 := hw5.box 4 rfl; have W5 := hide hw5; clear hw5)
    | (go_at_call 9; refine Calls.mono (ex_truth _ _ ((unhide R3).ext ((Ext.alloc _ _).trans (unhide W5)))) ?_; rintro e w6 ⟨rfl, hw6⟩; have hw56 := (unhide W5).trans hw6; clear hx0 hx1 hx2 hx3 hx4; have hx0 := hw56.box 0 rfl; have hx1 := hw56.box 1 rfl; have hx2 := hw56.box 2 rfl; have hx3 := hw56.box 3 rfl; have hx4 := hw56.box 4 rfl; have W6 := hide hw56; clear hw56 hw6)
    | (go_at_call 8; refine Calls.mono (ex_okc _ _ ((unhide R3).ext ((Ext.alloc _ _).trans (unhide W6)))) ?_; rintro e w7 ⟨rfl, hw7⟩; have hw67 := (unhide W6).trans hw7; clear hx0 hx1 hx2 hx3 hx4; have hx0 := hw67.box 0 rfl; have hx1 := hw67.box 1 rfl; have hx2 := hw67.box 2 rfl; have hx3 := hw67.box 3 rfl; have hx4 := hw67.box 4 rfl; have W7 := hide hw67; clear hw67 hw7)
    | (go_at_call 6; refine Calls.mono (ex_size _ _ ((unhide R3).ext ((Ext.alloc _ _).trans (unhide W7)))) ?_; rintro e w8 ⟨rfl, hw8⟩; have W8 := hide ((unhide W7).trans hw8); clear hw8))
  go_ret
  exact ⟨rfl, ((unhide W3).trans (Ext.alloc _ _)).trans (unhide W8)⟩

end Go.Proofs.YtmcmfgihdhfcdaaDoor
