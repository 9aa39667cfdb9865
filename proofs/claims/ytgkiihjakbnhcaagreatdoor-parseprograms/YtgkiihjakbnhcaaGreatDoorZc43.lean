/- The writer of parse: a node with an operator; an expression. -/
import Derived.Test.YtgkiihjakbnhcaaGreatDoorZc42
set_option linter.unusedSimpArgs false
set_option linter.unusedVariables false
set_option maxRecDepth 10000

namespace Go.Proofs.YtgkiihjakbnhcaaGreatDoor
open Go.RowKit

theorem wfail_w (g : Nat) (x : WS3) (w : World) (h : WrI w g x) : Calls Tryz.prog 59 #[.pointer (some ⟨g, 0, none⟩)] w (WrE g w ((x.1.1, true), x.2)) := by
  refine Calls.mono (wfail_any g x.1.1 x.2 x.1.2 w h.wr) ?_
  rintro e w' ⟨rfl, h2, h3⟩
  exact ⟨rfl, h2, h.len, h3⟩

theorem ofNd_mem {kd op : Int} {o : Opr} (h : ofNd kd op = some o) : o.s.size ≤ 1000 ∧ 1 ≤ o.lv ∧ o.lv ≤ 7 := by
  have hm : o ∈ oprs := List.mem_of_find?_eq_some h
  have ha : ∀ x ∈ oprs, x.s.size ≤ 1000 ∧ 1 ≤ x.lv ∧ x.lv ≤ 7 := by decide
  exact ha o hm

theorem obox {w W : World} {g : Nat} {o : Opr} (hg : g < w.heap.size) (k : WrK g (w.alloc (oprO o)) W) : W.cell? ⟨w.heap.size, 0, none⟩ = some (.string o.s) ∧ W.cell? ⟨w.heap.size, 1, none⟩ = some (.int .i64 o.lv) ∧ W.cell? ⟨w.heap.size, 2, none⟩ = some (.int .i64 o.k) ∧ W.cell? ⟨w.heap.size, 3, none⟩ = some (.int .i64 o.o) := by
  have h0 := Go.heap_alloc_new w (oprO o)
  have hr := (k.keep w.heap.size (by rw [size_alloc]; omega) (by omega) (oprO_not h0)).trans h0
  exact ⟨rowC hr 0 rfl, rowC hr 1 rfl, rowC hr 2 rfl, rowC hr 3 rfl⟩
abbrev nodW (k o : Int) (s : ByteArray) (n : Int) (a : Option Addr) (m c : Nat) : Obj := .cells #[.int .i64 k, .int .i64 o, .string s, .int .i64 n, .slice a m c] 28 (0, 0)
theorem nbox {w W : World} {g : Nat} {k o : Int} {s : ByteArray} {n : Int} {a : Option Addr} {m c : Nat} (hg : g < w.heap.size) (kk : WrK g (w.alloc (nodW k o s n a m c)) W) : W.cell? ⟨w.heap.size, 0, none⟩ = some (.int .i64 k) ∧ W.cell? ⟨w.heap.size, 1, none⟩ = some (.int .i64 o) ∧ W.cell? ⟨w.heap.size, 2, none⟩ = some (.string s) ∧ W.cell? ⟨w.heap.size, 3, none⟩ = some (.int .i64 n) ∧ W.cell? ⟨w.heap.size, 4, none⟩ = some (.slice a m c) := by
  have h0 := Go.heap_alloc_new w (nodW k o s n a m c)
  have hr := (kk.keep w.heap.size (by rw [size_alloc]; omega) (by omega) (nodO_not h0)).trans h0
  exact ⟨rowC hr 0 rfl, rowC hr 1 rfl, rowC hr 2 rfl, rowC hr 3 rfl, rowC hr 4 rfl⟩

theorem enterPl (v : Value) (W : World) : (callFunc 83 #[v]).run Tryz.prog W = .ok (.enter 83 #[v]) W := by kernel_rfl

set_option maxHeartbeats 1000000 in
theorem operation_w (g : Nat) (E : PN → Int → WS3 → Option WS3) (p : PN) (least : Int) (x y : WS3) (v : Value) (w : World) (I : WrI w g x) (hN : RepN w (fun b => b < g) p v) (hE : ExW g E) (hy : wO E p least x = some y) :
    Calls Tryz.prog 54 #[.pointer (some ⟨g, 0, none⟩), v, .int .i64 least] w (WrE g w y) := by
  obtain ⟨pk, po, ps, pn, pl⟩ := p
  rw [RepN] at hN
  obtain ⟨a, cap, rfl, hcap, hL⟩ := hN
  have hg := I.wr.lt
  unfold wO at hy
  simp only at hy
  have hW1 : Hd (WrK g w (w.alloc (nodW pk po ps pn a pl.length cap))) := WrK.ext (Ext.alloc _ _) hg
  have HNb : Hd (∀ W, WrK g (w.alloc (nodW pk po ps pn a pl.length cap)) W → _) := fun W k => nbox hg k
  have X0 : Hd (WrI (w.alloc (nodW pk po ps pn a pl.length cap)) g x) := I.ext (Ext.alloc _ _)
  have HLs : Hd (∀ W, WrK g w W → RepNL W (fun b => b < g) pl a) := fun W k => hL.wrk k
  have HE := hide hE
  have hg1 : g < (w.alloc (nodW pk po ps pn a pl.length cap)).heap.size := by rw [size_alloc]; omega
  have HG1 := hide hg1
  have HOf := hide (ofNode_any pk po (w.alloc (nodW pk po ps pn a pl.length cap)) (unhide X0).op)
  clear I hL hE hg1
  cases hof : ofNd pk po with
  | none =>
    rw [hof] at hy HOf
    simp only at hy HOf
    injection hy with hy
    subst hy
    go_enter Tryz.func54, Tryz.ntmps54
    go_wp2_with (go_at_call 82; refine Calls.mono (unhide HOf) ?_; rintro e w2 ⟨rfl, hw⟩; have K2 := hide (WrK.ext hw (unhide HG1)); have X2 := hide ((unhide X0).ext hw); have g2 : g < w2.heap.size := (unhide X2).wr.lt; obtain ⟨n0, n1, n2, n3, n4⟩ := unhide HNb _ (unhide K2); clear hw)
    have X3 : Hd (WrI (w2.alloc (oprO oprZ)).drew g x) := (unhide X2).ext (Ext.drew (Ext.alloc w2 (oprO oprZ)))
    have K3 : Hd (WrK g w2 (w2.alloc (oprO oprZ)).drew) := (WrK.ext (Ext.alloc w2 (oprO oprZ)) g2).drew
    refine wp_nrm ?_
    first | skip; go_region | fail
    all_goals
      simp only [Nrm]
      go_wp2_with (have T9 := unhide X3; go_at_call 59; refine Calls.mono (wfail_w g x _ T9) ?_; rintro e w4 ⟨rfl, h9, l9, k9⟩; have X4 := hide ((unhide X3).go k9 h9 l9); have K4 := hide (((unhide K2).trans (unhide K3)).trans k9); clear h9 l9 k9 T9 X3)
      go_end0
      exact ⟨rfl, (unhide X4).wr, (unhide X4).len, (unhide hW1).trans (unhide K4)⟩
  | some o =>
    obtain ⟨hos, hlv1, hlv2⟩ := ofNd_mem hof
    rw [hof] at hy HOf
    simp only [Option.getD_some, Option.isSome_some] at hy HOf
    have HP := hide (fun W => places_any o W)
    have HJ := hide (fun (x y : WS3) (W : World) (I : WrI W g x) (h : RepNL W (fun b => b < g) pl a) (hy : wJ E o pl x = some y) => joined_w g E o pl a cap x y W I h (unhide HE) hos ⟨hlv1, hlv2⟩ hy)
    obtain ⟨os, olv, okd, oop⟩ := o
    simp only at hlv1 hlv2 hos HP HJ hy HOf
    generalize hPL : (if olv = 6 then (1 : Int) else 2) = PL at hy HP
    by_cases hpl : (pl.length : Int) = PL
    · rw [if_pos hpl] at hy
      have hne : ((pl.length : Int) != PL) = false := by simp [hpl]
      clear hpl hPL
      by_cases hle : least ≤ olv
      · rw [if_pos hle] at hy
        have HY := hide hy
        clear hy
        go_enter Tryz.func54, Tryz.ntmps54
        go_wp2_with (go_at_call 82; refine Calls.mono (unhide HOf) ?_; rintro e w2 ⟨rfl, hw⟩; have K2 := hide (WrK.ext hw (unhide HG1)); have X2 := hide ((unhide X0).ext hw); have g2 : g < w2.heap.size := (unhide X2).wr.lt; obtain ⟨n0, n1, n2, n3, n4⟩ := unhide HNb _ (unhide K2); clear hw)
        have KO : Hd (WrK g w2 (w2.alloc (oprO ⟨os, olv, okd, oop⟩))) := WrK.ext (Ext.alloc _ _) g2
        have X3 : Hd (WrI (w2.alloc (oprO ⟨os, olv, okd, oop⟩)).drew g x) := (unhide X2).ext (Ext.drew (Ext.alloc _ _))
        have G2 := hide g2
        have HOb : Hd (∀ W, WrK g (w2.alloc (oprO ⟨os, olv, okd, oop⟩)) W → _) := fun W k => obox (unhide G2) k
        obtain ⟨m0, m1, m2, m3, m4⟩ := unhide HNb _ ((unhide K2).trans (unhide KO))
        refine wp_nrm ?_
        first | skip; go_region_law (refine step_call_xs 83 #[.tmp 22] #[87] rfl #[oprV ⟨os, olv, okd, oop⟩] (by simp [Act.eval, Act.put]) (by simp [Region.wanted, yielded, Act.put]) (enterPl _ _) (Calls.mono (unhide HP _) ?_); rintro e w4 ⟨rfl, hw⟩; have K4 : Hd (WrK g (w2.alloc (oprO ⟨os, olv, okd, oop⟩)) w4) := WrK.ext ((Ext.drew (Ext.refl _)).trans hw) (by rw [size_alloc]; omega); have X4 := hide ((unhide X3).ext hw); obtain ⟨b0, b1, b2, b3⟩ := unhide HOb _ (unhide K4); have K24 := hide (((unhide K2).trans (unhide KO)).trans (unhide K4)); obtain ⟨n0, n1, n2, n3, n4⟩ := unhide HNb _ (unhide K24); clear hw; refine ⟨_, rfl, ?_⟩) | fail
        all_goals
          simp only [Nrm]
          go_wp2_with (go_at_call 84; refine Calls.mono (unhide HJ _ _ _ (unhide X4) (unhide HLs _ ((unhide hW1).trans (unhide K24))) (unhide HY)) ?_; rintro e w5 ⟨rfl, h9, l9, k9⟩; have X5 := hide ((unhide X4).go k9 h9 l9); have K5 := hide ((unhide K24).trans k9); clear h9 l9 k9)
          go_end0
          exact ⟨rfl, (unhide X5).wr, (unhide X5).len, (unhide hW1).trans (unhide K5)⟩
      · rw [if_neg hle] at hy
        cases hq : wJ E ⟨os, olv, okd, oop⟩ pl (wW x [⟨#[40]⟩]) with
        | none => rw [hq] at hy; cases hy
        | some z =>
        rw [hq] at hy
        injection hy with hy
        subst hy
        have HY := hide hq
        clear hq
        go_enter Tryz.func54, Tryz.ntmps54
        go_wp2_with (go_at_call 82; refine Calls.mono (unhide HOf) ?_; rintro e w2 ⟨rfl, hw⟩; have K2 := hide (WrK.ext hw (unhide HG1)); have X2 := hide ((unhide X0).ext hw); have g2 : g < w2.heap.size := (unhide X2).wr.lt; obtain ⟨n0, n1, n2, n3, n4⟩ := unhide HNb _ (unhide K2); clear hw)
        have KO : Hd (WrK g w2 (w2.alloc (oprO ⟨os, olv, okd, oop⟩))) := WrK.ext (Ext.alloc _ _) g2
        have X3 : Hd (WrI (w2.alloc (oprO ⟨os, olv, okd, oop⟩)).drew g x) := (unhide X2).ext (Ext.drew (Ext.alloc _ _))
        have G2 := hide g2
        have HOb : Hd (∀ W, WrK g (w2.alloc (oprO ⟨os, olv, okd, oop⟩)) W → _) := fun W k => obox (unhide G2) k
        obtain ⟨m0, m1, m2, m3, m4⟩ := unhide HNb _ ((unhide K2).trans (unhide KO))
        refine wp_nrm ?_
        first | skip; go_region_law (refine step_call_xs 83 #[.tmp 22] #[87] rfl #[oprV ⟨os, olv, okd, oop⟩] (by simp [Act.eval, Act.put]) (by simp [Region.wanted, yielded, Act.put]) (enterPl _ _) (Calls.mono (unhide HP _) ?_); rintro e w4 ⟨rfl, hw⟩; have K4 : Hd (WrK g (w2.alloc (oprO ⟨os, olv, okd, oop⟩)) w4) := WrK.ext ((Ext.drew (Ext.refl _)).trans hw) (by rw [size_alloc]; omega); have X4 := hide ((unhide X3).ext hw); obtain ⟨b0, b1, b2, b3⟩ := unhide HOb _ (unhide K4); have K24 := hide (((unhide K2).trans (unhide KO)).trans (unhide K4)); obtain ⟨n0, n1, n2, n3, n4⟩ := unhide HNb _ (unhide K24); clear hw; refine ⟨_, rfl, ?_⟩) | fail
        all_goals
          simp only [Nrm]
          go_wp2_with (first
            | (have T9 := unhide X4; go_at_call 55; refine Calls.mono (words1 g _ ⟨#[40]⟩ _ _ (by first | rfl | simp) T9 (by decide)) ?_; rintro e w5 ⟨rfl, h9, l9, k9⟩; have X5 := hide ((unhide X4).go k9 h9 l9); have K5 := hide ((unhide K4).trans k9); have K25 := hide ((unhide K24).trans k9); obtain ⟨b0, b1, b2, b3⟩ := unhide HOb _ (unhide K5); obtain ⟨n0, n1, n2, n3, n4⟩ := unhide HNb _ (unhide K25); clear h9 l9 k9 T9 X4)
            | (have T9 := unhide X5; go_at_call 84; refine Calls.mono (unhide HJ _ _ _ T9 (unhide HLs _ ((unhide hW1).trans (unhide K25))) (unhide HY)) ?_; rintro e w6 ⟨rfl, h9, l9, k9⟩; have X6 := hide ((unhide X5).go k9 h9 l9); have K26 := hide ((unhide K25).trans k9); clear h9 l9 k9 T9 X5)
            | (have T9 := unhide X6; go_at_call 55; refine Calls.mono (words1 g _ ⟨#[41]⟩ _ _ (by first | rfl | simp) T9 (by decide)) ?_; rintro e w7 ⟨rfl, h9, l9, k9⟩; have X7 := hide ((unhide X6).go k9 h9 l9); have K27 := hide ((unhide K26).trans k9); clear h9 l9 k9 T9 X6))
          go_end0
          exact ⟨rfl, (unhide X7).wr, (unhide X7).len, (unhide hW1).trans (unhide K27)⟩
    · rw [if_neg hpl] at hy
      have hne : ((pl.length : Int) != PL) = true := by simp [hpl]
      injection hy with hy
      subst hy
      clear hpl hPL
      go_enter Tryz.func54, Tryz.ntmps54
      go_wp2_with (go_at_call 82; refine Calls.mono (unhide HOf) ?_; rintro e w2 ⟨rfl, hw⟩; have K2 := hide (WrK.ext hw (unhide HG1)); have X2 := hide ((unhide X0).ext hw); have g2 : g < w2.heap.size := (unhide X2).wr.lt; obtain ⟨n0, n1, n2, n3, n4⟩ := unhide HNb _ (unhide K2); clear hw)
      have KO : Hd (WrK g w2 (w2.alloc (oprO ⟨os, olv, okd, oop⟩))) := WrK.ext (Ext.alloc _ _) g2
      have X3 : Hd (WrI (w2.alloc (oprO ⟨os, olv, okd, oop⟩)).drew g x) := (unhide X2).ext (Ext.drew (Ext.alloc _ _))
      have G2 := hide g2
      have HOb : Hd (∀ W, WrK g (w2.alloc (oprO ⟨os, olv, okd, oop⟩)) W → _) := fun W k => obox (unhide G2) k
      obtain ⟨m0, m1, m2, m3, m4⟩ := unhide HNb _ ((unhide K2).trans (unhide KO))
      refine wp_nrm ?_
      first | skip; go_region_law (refine step_call_xs 83 #[.tmp 22] #[87] rfl #[oprV ⟨os, olv, okd, oop⟩] (by simp [Act.eval, Act.put]) (by simp [Region.wanted, yielded, Act.put]) (enterPl _ _) (Calls.mono (unhide HP _) ?_); rintro e w4 ⟨rfl, hw⟩; have K4 : Hd (WrK g (w2.alloc (oprO ⟨os, olv, okd, oop⟩)) w4) := WrK.ext ((Ext.drew (Ext.refl _)).trans hw) (by rw [size_alloc]; omega); have X4 := hide ((unhide X3).ext hw); obtain ⟨b0, b1, b2, b3⟩ := unhide HOb _ (unhide K4); have K24 := hide (((unhide K2).trans (unhide KO)).trans (unhide K4)); obtain ⟨n0, n1, n2, n3, n4⟩ := unhide HNb _ (unhide K24); clear hw; refine ⟨_, rfl, ?_⟩) | fail
      all_goals
        simp only [Nrm]
        go_wp2_with (have T9 := unhide X4; go_at_call 59; refine Calls.mono (wfail_w g x _ T9) ?_; rintro e w5 ⟨rfl, h9, l9, k9⟩; have X5 := hide ((unhide X4).go k9 h9 l9); have K5 := hide ((unhide K24).trans k9); clear h9 l9 k9 T9 X4)
        go_end0
        exact ⟨rfl, (unhide X5).wr, (unhide X5).len, (unhide hW1).trans (unhide K5)⟩

end Go.Proofs.YtgkiihjakbnhcaaGreatDoor
