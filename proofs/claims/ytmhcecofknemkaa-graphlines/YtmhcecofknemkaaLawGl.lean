/- GraphLines: any three ints. -/
import Derived.Test.YtmhcecofknemkaaGrLz
import Derived.Test.YtmhcecofknemkaaGrTc
import Derived.Test.YtmhcecofknemkaaGrGb
import Derived.Test.YtmhcecofknemkaaGrGw
import Derived.Test.YtmhcecofknemkaaGrAw
import Derived.Test.YtmhcecofknemkaaGrCz
set_option linter.unusedSimpArgs false
set_option linter.unusedVariables false
set_option maxRecDepth 10000
namespace Go.Proofs.Ytmhcecofknemkaa
open Go.RowKit

def lnN (n f t i : Nat) : List Nat := (if i + 1 < n then [i + 1] else []) ++ (if i = f then [t] else [])
theorem lnN_L (n f t i : Nat) : (lnN n f t i).map (fun (x : Nat) => (x : Int)) = lnL n f t i := by
  unfold lnN lnL
  split <;> split <;> simp
/-- A list under way. -/
structure LnI (wp wz : World) (l : List Nat) (la : Option Addr) (lc : Nat) : Prop where
  ext : Ext wp wz
  own : wz.ownsRow wp.heap.size 3 1 (.slice la l.length lc) l.length (ns l)
theorem LnI.push {wp wz w3 : World} {l : List Nat} {la : Option Addr} {lc : Nat} {ob : Obj} {g' cap' : Nat} (h : LnI wp wz l la lc) (x : Nat) (v : Value) (hv : v = .int .i64 (x : Int))
    (g1 : (wz.alloc ob).grownBy w3 (Value.slice la l.length lc).ownBlock) (ho : w3.ownsRow wp.heap.size 3 1 (.slice (some ⟨g', 0, none⟩) (l.length + 1) cap') (l.length + 1) (ns l ++ [v])) : LnI wp w3 (l ++ [x]) (some ⟨g', 0, none⟩) cap' := by
  subst hv
  have hX := h.ext.trans (Ext.alloc wz ob)
  exact ⟨Below.grown hX g1 hX.size (fun j hj => (h.own.lt j hj).1), by simpa [ns] using ho⟩
/-- What is known of such a row. -/
theorem lines_known (n f t : Nat) (hn : n ≤ 60) (hf : f < n) (ht : t < n) : ∃ F d ls, gWalk (lnG n f t) 200 = some F ∧ gDoms (lnG n f t) 200 = some d ∧ d.length = n ∧ d.map oI = (List.range n).map (lnW f t) ∧ gLoops (lnG n f t) 200 = some ls ∧ (f < t → ls = []) ∧ (t ≤ f → ls = [⟨t, List.range' t (f + 1 - t), none⟩]) ∧ gCyc (lnG n f t) [] 200 = some (decide (t ≤ f)) ∧ gCyc (lnG n f t) ((List.replicate n false).set f true) 200 = some false ∧ F.left.length = n ∧ Few (lnG n f t) ∧ ∀ l ∈ gPreds (lnG n f t), l.length ≤ 10000 := by
  have hul := lnG_len n f t
  obtain ⟨F, hF, _⟩ := gWalk_ends (lnG n f t) 200 (by rw [hul]; omega)
  obtain ⟨D, _, _⟩ := gWalk_dfs (lnG n f t) 200 F (by rw [hul]; omega) hF
  obtain ⟨d, d1, d2⟩ := gDoms_ok (lnG n f t) 200 F (by rw [hul]; omega) hF (by rw [hul]; omega)
  have hdl : d.length = n := by rw [d2.len, hul]
  have hl2 : ∀ l ∈ lnG n f t, l.length ≤ 2 := fun l hl => by
    unfold lnG at hl
    obtain ⟨i, _, rfl⟩ := List.mem_map.1 hl
    unfold lnL
    rw [List.length_append]
    split <;> split <;> simp
  have hlo : ∃ ls, gLoops (lnG n f t) 200 = some ls ∧ (f < t → ls = []) ∧ (t ≤ f → ls = [⟨t, List.range' t (f + 1 - t), none⟩]) := by
    by_cases h : f < t
    · exact ⟨[], ln_none ht hf h 200 F hF (by omega), fun _ => rfl, fun c => by omega⟩
    · exact ⟨_, ln_one ht hf (by omega) 200 F hF (by omega) (by omega), fun c => absurd c h, fun _ => rfl⟩
  obtain ⟨ls, l1, l2, l3⟩ := hlo
  refine ⟨F, d, ls, hF, d1, hdl, ?_, l1, l2, l3, ln_cyc ht hf 200 F hF (by omega) [] _ (by simp), ln_cyc ht hf 200 F hF (by omega) _ false ?_, ln_order ht 200 F (by omega) hF, ⟨by rw [hul]; omega, fun l hl => Nat.le_trans (hl2 l hl) (by omega)⟩, fun l hl => ?_⟩
  · apply List.ext_getElem?
    intro x
    by_cases hx : x < n
    · obtain ⟨o, h1, h2⟩ := ln_doms ht hf D d d2 x hx
      rw [List.getElem?_map, h1, List.getElem?_map, List.getElem?_range hx, Option.map_some, Option.map_some, h2]
    · rw [List.getElem?_eq_none (by simp; omega), List.getElem?_eq_none (by simp; omega)]
  · constructor
    · intro c; cases c
    · rintro ⟨h1, h2⟩
      have := h2 f h1 (Nat.le_refl _)
      rw [List.getD_eq_getElem?_getD, List.getElem?_set_self (by simpa using hf)] at this
      cases this
  · have h1 := gPred_Dt (lnG n f t) 2 hl2 l hl
    rw [hul] at h1
    omega

set_option maxHeartbeats 4000000 in
theorem lines_walk (A B C : Int) (w : World) : Calls Try.prog 8 #[.int .i64 A, .int .i64 B, .int .i64 C] w fun e w' => e = .returned (.bool true) ∧ Ext w w' := by
  obtain ⟨n0, hn0, hn1⟩ := n_mask A 60 (by decide)
  have hn0 : (bits .and .i64 A 65535).tmod 60 = n0 := hn0
  obtain ⟨n, hn⟩ : ∃ n, n = n0 + 1 := ⟨_, rfl⟩
  have hn2 : (n0 : Int) + 1 = (n : Int) := by omega
  obtain ⟨f, hf0, hf⟩ := n_mask B n (by omega)
  obtain ⟨t, ht0, ht⟩ := n_mask C n (by omega)
  have hnl : n ≤ 60 := by omega
  have hnz : ¬ (n : Int) = 0 := by omega
  have hnz2 : ((n : Int) == 0) = false := by rw [beq_eq_false_iff_ne]; exact hnz
  obtain ⟨F, d, ls, hF, hd, hdl, hdm, hlp, hl0, hl1, hc0, hc1, hol, hfew, hpd⟩ := lines_known n f t hnl hf ht
  have hul := lnG_len n f t
  have H1 : Hd (∀ (W : World) (ga : Option Addr) (gc : Nat), RepG W (In W) ga (lnG n f t) → Calls Try.prog 9 #[.slice ga n gc] W fun e w' => ∃ b, e = .returned (slV b n) ∧ Row w' b 3 (zs ((List.range n).map (lnW f t))) ∧ Ext W w') := fun W ga gc hG => by
    have := doms_w ga gc (lnG n f t) W 200 d hG hfew (by omega) (fun st hst => by have := (gWalk_len hst).1; omega) hd
    rw [hul] at this
    refine Calls.mono this ?_
    rintro e w1 ⟨b, rfl, _, r, x⟩
    exact ⟨b, by rw [hdl], by have e : zs ((List.range n).map (lnW f t)) = os d := (by rw [← hdm]; simp [os, zs]); rw [e]; exact r, x⟩
  have H2 : Hd (∀ (W : World) (ga : Option Addr) (gc : Nat), RepG W (In W) ga (lnG n f t) → Calls Try.prog 10 #[.slice ga n gc] W fun e w' => ∃ oa oc, e = .returned (.slice oa n oc) ∧ Ext W w') := fun W ga gc hG => by
    have := order_w ga gc (lnG n f t) W 200 F hG hfew (by omega) hF
    rw [hul, hol] at this
    refine Calls.mono this ?_
    rintro e w1 ⟨oa, oc, rfl, _, x⟩
    exact ⟨oa, oc, rfl, x⟩
  have H3 : Hd (∀ (W : World) (ga : Option Addr) (gc : Nat), RepG W (In W) ga (lnG n f t) → Calls Try.prog 12 #[.slice ga n gc] W fun e w' => ∃ pa pc, e = .returned (.slice pa ls.length pc) ∧ Ext W w' ∧ ∀ x, ls[0]? = some x → ∃ gl aa ac, pa = some ⟨gl, 0, none⟩ ∧ ls.length ≤ pc ∧ w'.cell? ⟨gl, 0, none⟩ = some (.int .i64 (x.head : Int)) ∧ w'.cell? ⟨gl, 1, none⟩ = some (.slice aa x.body.length ac) ∧ w'.cell? ⟨gl, 2, none⟩ = some (.int .i64 (oI x.ins)) ∧ RepI w' (In w') aa (x.body.map (fun (x : Nat) => (x : Int)))) := fun W ga gc hG => by
    have := loops_w ga gc (lnG n f t) W 200 10000 ls hG hfew (by omega) hpd (by omega) (by rw [hul]; omega) hlp
    rw [hul] at this
    refine Calls.mono this ?_
    rintro e w1 ⟨w0, pb, pl, ads, pa, pc, rfl, x, s⟩
    refine ⟨pa, pc, rfl, x.trans s.ext, fun y hy => ?_⟩
    obtain ⟨gl, a, e1, e2, e3, e4, e5, e6, _⟩ := s.at hy
    exact ⟨gl, a.1, a.2, e1, e2, by simpa using e4, by simpa using e5, by simpa using e6, own_repI (s.own 0 y a hy e3)⟩
  have H4 : Hd (∀ (W : World) (ga : Option Addr) (gc : Nat), RepG W (In W) ga (lnG n f t) → Calls Try.prog 13 #[.slice ga n gc, .slice none 0 0] W fun e w' => e = .returned (.bool (decide (t ≤ f))) ∧ Ext W w') := fun W ga gc hG => by
    have := cyclic_w ga gc (lnG n f t) none 0 [] W 200 _ hG hfew (Or.inl rfl) (by simp) (by rw [hul]; omega) hc0
    rw [hul] at this
    exact this
  have H5 : Hd (∀ (W : World) (ga : Option Addr) (gc b : Nat), RepG W (In W) ga (lnG n f t) → Row W b 4 (bsV ((List.replicate n false).set f true)) → Calls Try.prog 13 #[.slice ga n gc, slV b n] W fun e w' => e = .returned (.bool false) ∧ Ext W w') := fun W ga gc b hG hr => by
    have := cyclic_w ga gc (lnG n f t) (some ⟨b, 0, none⟩) n ((List.replicate n false).set f true) W 200 false hG hfew (row_repB _ hr (k_lt hr)) (by simp; omega) (by rw [hul]; omega) hc1
    rw [hul] at this
    simpa using this
  have HA := hide awake_w
  have HL0 := hide hl0
  have HL1 := hide hl1
  obtain ⟨i0, hi, hz0, hz1, hz2⟩ := k_info
  have HI := hide hi
  have Z0 := hide hz0
  have Z1 := hide hz1
  have Z2 := hide hz2
  clear hi hz0 hz1 hz2
  obtain ⟨i1, hi, hz0, hz1, hz2⟩ := k_infoS
  have HJ := hide hi
  have Y0 := hide hz0
  have Y1 := hide hz1
  have Y2 := hide hz2
  clear hi hz0 hz1 hz2
  have hmk := hide (make_bools n (by omega))
  clear hF hd hdl hdm hlp hl0 hl1 hc0 hc1 hol hfew hpd hul hn
  go_enter Try.func8, Try.ntmps8
  go_wp2_with fail
  have hne : Nonempty (RGw w) := ⟨⟨w, Ext.refl _⟩⟩
  refine wp_region_rx (W := w) (by kernel_rfl) (by kernel_rfl) (Ext.refl _) ?_
  repeat (go_big_quiet_step (fail))
  refine wpQuiet_nil ?_
  rintro w1 ⟨⟨_, hx1⟩, rfl⟩
  have X1 := hide hx1
  clear hx1 hne
  go_wp2_with fail
  go_loopw [7, 8] (fun t7 t8 wr => ∃ (i : Nat) (ads : List (Option Addr × Nat)) (ga : Option Addr) (gc : Nat), t7 = .slice ga i gc ∧ t8 = .int .i64 (i : Int) ∧ i ≤ n ∧ Hd (GbS w1 wr ((List.range i).map (lnL n f t)) ads ga gc)) (fun _ t _ => n - (intOf t).toNat)
  case atStart => exact ⟨0, [], none, 0, rfl, rfl, by omega, ⟨Ext.refl w1, rfl, World.ownsRow_nil _ _ _ _, fun i l a h => by simp at h⟩⟩
  case round =>
    obtain ⟨i, ads, ga, gc, rfl, rfl, hi, hI⟩ := hrel
    by_cases hlt : i < n
    · have hlt2 : (i : Int) < (n : Int) := by omega
      have hgl : ((List.range i).map (lnL n f t)).length = i := by simp
      have hoG := (unhide hI).oG
      rw [hgl] at hoG
      have HOg : Hd (∀ (W : World) (o2 : Obj), Ext wr W → (W.alloc o2).ownsRow w1.heap.size 22 1 (.slice ga i gc) i (slI ((List.range i).map (lnL n f t)) ads)) := fun W o2 hx => k_own_heap hoG (fun q hq => ((Ext.alloc W o2).block q (Nat.lt_of_lt_of_le (hoG.lt q hq).2 hx.size)).trans (hx.block q (hoG.lt q hq).2))
      have HLe := hide (unhide hI).ext.size
      have HL0 : Hd (LnI wr wr [] none 0) := ⟨Ext.refl _, World.ownsRow_nil _ _ _ _⟩
      have HAdd : Hd (∀ (W w3 : World) (ob : Obj) (g' cap' : Nat) (lp : List Nat) (hlp : lnN n f t i = lp) (xa : Option Addr) (xc : Nat), LnI wr W lp xa xc →
          (W.alloc ob).grownBy w3 (Value.slice ga i gc).ownBlock → w3.ownsRow w1.heap.size 22 1 (.slice (some ⟨g', 0, none⟩) (i + 1) cap') (i + 1) (slI ((List.range i).map (lnL n f t)) ads ++ [.slice xa lp.length xc]) → ((Value.slice ga i gc).ownBlock = some g' ∨ W.heap.size + 1 ≤ g') →
          GbS w1 w3 ((List.range (i + 1)).map (lnL n f t)) (ads ++ [(xa, xc)]) (some ⟨g', 0, none⟩) cap') := fun W w3 ob g' cap' lp hlp xa xc h1 h3 h4 h5 => by
        have e : (List.range (i + 1)).map (lnL n f t) = (List.range i).map (lnL n f t) ++ [lnL n f t i] := by simp [List.range_succ]
        rw [e, ← lnN_L, hlp]
        refine (unhide hI).add h1.ext _ (xa, xc) (own_repB h1.own) (ob := ob) ?_ ?_ ?_
        · rw [hgl]; exact h3
        · rw [hgl, List.length_map]; exact h4
        · rw [hgl]; exact h5
      clear hoG hI
      by_cases h1 : i + 1 < n
      · have h1' : (i : Int) + 1 < (n : Int) := by omega
        have HL2 := HL0
        have HO := hide (fun ob => k_own_heap (unhide HL2).own (fun q hq => (Ext.alloc wr ob).block q ((unhide HL2).own.lt q hq).2))
        have HLz := hide (unhide HL2).ext.size
        go_wp2_with (at_builtin; refine kapp_list rfl (.tmp 37) (.tmp 40) 22 rfl wr.heap.size 3 i0 (.int .i64 0) 1 8 Try.underlying22 (unhide HI) (unhide Z0) (unhide Z1) (unhide Z2) rfl (by decide) none 0 0 _ rfl (unhide HO _) ⟨_, 0, none⟩ 1 1 [.int .i64 ((i : Int) + 1)] rfl (by decide) rfl (k_new _ _ rfl _ _) (k_one_int _) ?a1 ?a2 ?a3 ?_)
        try (case a1 => unfold maxLen; omega)
        try (case a2 => omega)
        try (case a3 => have h2 := unhide HLz; first | omega | (simp; omega) | exact Nat.le_trans h2 (Ext.alloc _ _).size)
        intro ag ac w5 ho hgr hw
        have HL3 := hide ((unhide HL2).push (i + 1) _ (by first | rfl | simp) hgr ho)
        clear ho hgr hw HO HLz HL2
        have HL2 := HL3
        clear HL3
        by_cases h2 : i = f
        · have h2' : ((i : Int) == (f : Int)) = true := by rw [h2]; simp
          have hl9 : Hd (lnN n f t i = [i + 1, t]) := by show _ = _; unfold lnN; rw [if_pos h1, if_pos h2]; rfl
          clear h2
          have HO := hide (fun ob => k_own_heap (unhide HL2).own (fun q hq => (Ext.alloc w5 ob).block q ((unhide HL2).own.lt q hq).2))
          have HLz := hide (unhide HL2).ext.size
          go_wp2_with (at_builtin; refine kapp_list rfl (.tmp 45) (.tmp 47) 22 rfl wr.heap.size 3 i0 (.int .i64 0) 1 8 Try.underlying22 (unhide HI) (unhide Z0) (unhide Z1) (unhide Z2) rfl (by decide) (some ⟨ag, 0, none⟩) 1 ac _ rfl (unhide HO _) ⟨_, 0, none⟩ 1 1 [.int .i64 (t : Int)] rfl (by decide) rfl (k_new _ _ rfl _ _) (k_one_int _) ?b1 ?b2 ?b3 ?_)
          try (case b1 => unfold maxLen; omega)
          try (case b2 => omega)
          try (case b3 => have h2 := unhide HLz; first | omega | (simp; omega) | exact Nat.le_trans h2 (Ext.alloc _ _).size)
          intro bg bc w6 ho hgr hw
          have HL3 := hide ((unhide HL2).push t _ (by first | rfl | simp) hgr ho)
          clear ho hgr hw HO HLz HL2
          have HL2 := HL3
          clear HL3
          go_wp2_with (at_builtin; refine kapp_list rfl (.tmp 49) (.tmp 51) 23 rfl w1.heap.size 22 i1 (.slice none 0 0) 1 24 Try.underlying23 (unhide HJ) (unhide Y0) (unhide Y1) (unhide Y2) rfl (by decide) ga i gc _ rfl (unhide HOg _ _ (unhide HL2).ext) ⟨_, 0, none⟩ 1 1 [.slice (some ⟨bg, 0, none⟩) 2 bc] rfl (by decide) rfl (k_new _ _ rfl _ _) (one_sl _ _ _) ?g1 ?g2 ?g3 ?_)
          try (case g1 => unfold maxLen; omega)
          try (case g2 => omega)
          try (case g3 => have h1 := unhide HLe; have h2 := (unhide HL2).ext.size; first | omega | (simp; omega) | exact Nat.le_trans h1 (Nat.le_trans h2 (Ext.alloc _ _).size))
          intro g' cap' w9 ho hgr hw
          have S9 := hide (unhide HAdd _ w9 _ g' cap' [i + 1, t] (unhide hl9) (some ⟨bg, 0, none⟩) bc (unhide HL2) hgr ho (hw.imp id (fun e => by simpa using e)))
          clear ho hgr hw HL2
          go_wp2_with fail
          go_roundw
          case rel => exact ⟨i + 1, _, _, _, rfl, by go_num, by omega, S9⟩
          case measure => simp [intOf]; omega
        · have h2' : ((i : Int) == (f : Int)) = false := by rw [beq_eq_false_iff_ne]; omega
          have h2b : ¬ (i : Int) = (f : Int) := by omega
          have hl9 : lnN n f t i = [i + 1] := by unfold lnN; rw [if_pos h1, if_neg h2]; rfl
          go_wp2_with (at_builtin; refine kapp_list rfl (.tmp 49) (.tmp 51) 23 rfl w1.heap.size 22 i1 (.slice none 0 0) 1 24 Try.underlying23 (unhide HJ) (unhide Y0) (unhide Y1) (unhide Y2) rfl (by decide) ga i gc _ rfl (unhide HOg _ _ (unhide HL2).ext) ⟨_, 0, none⟩ 1 1 [.slice (some ⟨ag, 0, none⟩) 1 ac] rfl (by decide) rfl (k_new _ _ rfl _ _) (one_sl _ _ _) ?g1 ?g2 ?g3 ?_)
          try (case g1 => unfold maxLen; omega)
          try (case g2 => omega)
          try (case g3 => have h1 := unhide HLe; have h2 := (unhide HL2).ext.size; first | omega | (simp; omega) | exact Nat.le_trans h1 (Nat.le_trans h2 (Ext.alloc _ _).size))
          intro g' cap' w9 ho hgr hw
          have S9 := hide (unhide HAdd _ w9 _ g' cap' [i + 1] hl9 (some ⟨ag, 0, none⟩) ac (unhide HL2) hgr ho (hw.imp id (fun e => by simpa using e)))
          clear ho hgr hw HL2
          go_wp2_with fail
          go_roundw
          case rel => exact ⟨i + 1, _, _, _, rfl, by go_num, by omega, S9⟩
          case measure => simp [intOf]; omega
      · have h1' : ¬ (i : Int) + 1 < (n : Int) := by omega
        have HL2 := HL0
        by_cases h2 : i = f
        · have h2' : ((i : Int) == (f : Int)) = true := by rw [h2]; simp
          have hl9 : Hd (lnN n f t i = [t]) := by show _ = _; unfold lnN; rw [if_neg h1, if_pos h2]; rfl
          clear h2
          have HO := hide (fun ob => k_own_heap (unhide HL2).own (fun q hq => (Ext.alloc wr ob).block q ((unhide HL2).own.lt q hq).2))
          have HLz := hide (unhide HL2).ext.size
          go_wp2_with (at_builtin; refine kapp_list rfl (.tmp 45) (.tmp 47) 22 rfl wr.heap.size 3 i0 (.int .i64 0) 1 8 Try.underlying22 (unhide HI) (unhide Z0) (unhide Z1) (unhide Z2) rfl (by decide) none 0 0 _ rfl (unhide HO _) ⟨_, 0, none⟩ 1 1 [.int .i64 (t : Int)] rfl (by decide) rfl (k_new _ _ rfl _ _) (k_one_int _) ?b1 ?b2 ?b3 ?_)
          try (case b1 => unfold maxLen; omega)
          try (case b2 => omega)
          try (case b3 => have h2 := unhide HLz; first | omega | (simp; omega) | exact Nat.le_trans h2 (Ext.alloc _ _).size)
          intro bg bc w6 ho hgr hw
          have HL3 := hide ((unhide HL2).push t _ (by first | rfl | simp) hgr ho)
          clear ho hgr hw HO HLz HL2
          have HL2 := HL3
          clear HL3
          go_wp2_with (at_builtin; refine kapp_list rfl (.tmp 49) (.tmp 51) 23 rfl w1.heap.size 22 i1 (.slice none 0 0) 1 24 Try.underlying23 (unhide HJ) (unhide Y0) (unhide Y1) (unhide Y2) rfl (by decide) ga i gc _ rfl (unhide HOg _ _ (unhide HL2).ext) ⟨_, 0, none⟩ 1 1 [.slice (some ⟨bg, 0, none⟩) 1 bc] rfl (by decide) rfl (k_new _ _ rfl _ _) (one_sl _ _ _) ?g1 ?g2 ?g3 ?_)
          try (case g1 => unfold maxLen; omega)
          try (case g2 => omega)
          try (case g3 => have h1 := unhide HLe; have h2 := (unhide HL2).ext.size; first | omega | (simp; omega) | exact Nat.le_trans h1 (Nat.le_trans h2 (Ext.alloc _ _).size))
          intro g' cap' w9 ho hgr hw
          have S9 := hide (unhide HAdd _ w9 _ g' cap' [t] (unhide hl9) (some ⟨bg, 0, none⟩) bc (unhide HL2) hgr ho (hw.imp id (fun e => by simpa using e)))
          clear ho hgr hw HL2
          go_wp2_with fail
          go_roundw
          case rel => exact ⟨i + 1, _, _, _, rfl, by go_num, by omega, S9⟩
          case measure => simp [intOf]; omega
        · have h2' : ((i : Int) == (f : Int)) = false := by rw [beq_eq_false_iff_ne]; omega
          have h2b : ¬ (i : Int) = (f : Int) := by omega
          have hl9 : lnN n f t i = [] := by unfold lnN; rw [if_neg h1, if_neg h2]; rfl
          go_wp2_with (at_builtin; refine kapp_list rfl (.tmp 49) (.tmp 51) 23 rfl w1.heap.size 22 i1 (.slice none 0 0) 1 24 Try.underlying23 (unhide HJ) (unhide Y0) (unhide Y1) (unhide Y2) rfl (by decide) ga i gc _ rfl (unhide HOg _ _ (unhide HL2).ext) ⟨_, 0, none⟩ 1 1 [.slice none 0 0] rfl (by decide) rfl (k_new _ _ rfl _ _) (one_sl _ _ _) ?g1 ?g2 ?g3 ?_)
          try (case g1 => unfold maxLen; omega)
          try (case g2 => omega)
          try (case g3 => have h1 := unhide HLe; have h2 := (unhide HL2).ext.size; first | omega | (simp; omega) | exact Nat.le_trans h1 (Nat.le_trans h2 (Ext.alloc _ _).size))
          intro g' cap' w9 ho hgr hw
          have S9 := hide (unhide HAdd _ w9 _ g' cap' [] hl9 none 0 (unhide HL2) hgr ho (hw.imp id (fun e => by simpa using e)))
          clear ho hgr hw HL2
          go_wp2_with fail
          go_roundw
          case rel => exact ⟨i + 1, _, _, _, rfl, by go_num, by omega, S9⟩
          case measure => simp [intOf]; omega
    · obtain rfl : i = n := by omega
      have HG : Hd (RepG wr (In wr) ga (lnG i f t)) := (unhide hI).graph
      have HX : Hd (Ext w wr) := (unhide X1).trans (unhide hI).ext
      clear hI X1
      by_cases hft : f < t
      · have hls := unhide HL0 hft
        subst hls
        have hft2 : (f : Int) < (t : Int) := by omega
        have hdc : decide (t ≤ f) = false := by rw [decide_eq_false_iff_not]; omega
        rw [hdc] at H4
        clear hdc
        by_cases hsk : f + 1 < t
        · have hsk2 : (f : Int) + 1 < (t : Int) := by omega
          have HS := hide hsk
          clear hsk
          go_wp2_with (first
            | (go_at_call 9; refine Calls.mono (unhide H1 wr ga gc (unhide HG)) ?_; rintro e w3 ⟨db, rfl, r3, x3⟩; have R3 := hide r3; have G3 := hide ((unhide HG).ext x3); have X3 : Hd (Ext w w3) := (unhide HX).trans x3; clear r3 x3)
            | (go_at_call 12; refine Calls.mono (unhide H3 w3 ga gc (unhide G3)) ?_; rintro e w4 ⟨pa, pc, rfl, x4, c4⟩; have C4 := hide c4; have R4 := hide ((unhide R3).on x4); have G4 := hide ((unhide G3).ext x4); have X4 : Hd (Ext w w4) := (unhide X3).trans x4; clear x4 c4)
            | (go_at_call 10; refine Calls.mono (unhide H2 w4 ga gc (unhide G4)) ?_; rintro e w5 ⟨oa, oc, rfl, x5⟩; have R5 := hide ((unhide R4).on x5); have G5 := hide ((unhide G4).ext x5); have X45 := hide x5; have X5 : Hd (Ext w w5) := (unhide X4).trans x5; clear x5))
          clear R3 R4 G3 G4 X3 X4 HG HX
          go_loopw [13] (fun t wz => ∃ (k : Nat), t = .int .i64 (k : Int) ∧ k ≤ i ∧ wz = w5) (fun t _ => i - (intOf t).toNat)
          case atStart => exact ⟨0, rfl, by omega, by first | rfl | trivial⟩
          case round =>
            obtain ⟨k, rfl, hk, hwz⟩ := hrel
            obtain rfl := hwz
            by_cases hlk : k < i
            · have hlk2 : (k : Int) < (i : Int) := by omega
              have ck := (unhide R5).cell k (v := .int .i64 (lnW f t k)) (by rw [zs, List.getElem?_map, List.getElem?_map, List.getElem?_range hlk]; rfl)
              by_cases hkt : k = t
              · have e : lnW f t k = (f : Int) := by unfold lnW; rw [if_pos ⟨unhide HS, hkt⟩]
                rw [e] at ck
                have hk' : ((k : Int) == (t : Int)) = true := by rw [hkt]; simp
                clear hkt e
                go_wp2_with fail
                go_roundw
                case rel => first | exact ⟨k + 1, by go_num, by omega, by first | rfl | trivial⟩ | exact ⟨k + 1, by go_num, by omega⟩
                case measure => simp [intOf]; omega
              · have e : lnW f t k = (k : Int) - 1 := by unfold lnW; rw [if_neg (fun c => hkt c.2)]
                rw [e] at ck
                have hk' : ((k : Int) == (t : Int)) = false := by rw [beq_eq_false_iff_ne]; omega
                clear hkt e
                go_wp2_with fail
                go_roundw
                case rel => first | exact ⟨k + 1, by go_num, by omega, by first | rfl | trivial⟩ | exact ⟨k + 1, by go_num, by omega⟩
                case measure => simp [intOf]; omega
            · obtain rfl : k = i := by omega
              go_wp2_with (first
                | (go_at_call 13; refine Calls.mono (unhide H4 wr ga gc (unhide G5)) ?_; rintro e w6 ⟨rfl, x6⟩; have X6 : Hd (Ext w w6) := (unhide X5).trans x6; clear x6)
                | (go_at_call 15; refine Calls.mono (unhide HA w6) ?_; rintro e w7 ⟨rfl, x7⟩; have X7 : Hd (Ext w w7) := (unhide X6).trans x7; clear x7))
              go_ret
              exact ⟨rfl, unhide X7⟩
        · have hsk2 : ¬ (f : Int) + 1 < (t : Int) := by omega
          have HS := hide hsk
          clear hsk
          go_wp2_with (first
            | (go_at_call 9; refine Calls.mono (unhide H1 wr ga gc (unhide HG)) ?_; rintro e w3 ⟨db, rfl, r3, x3⟩; have R3 := hide r3; have G3 := hide ((unhide HG).ext x3); have X3 : Hd (Ext w w3) := (unhide HX).trans x3; clear r3 x3)
            | (go_at_call 12; refine Calls.mono (unhide H3 w3 ga gc (unhide G3)) ?_; rintro e w4 ⟨pa, pc, rfl, x4, c4⟩; have C4 := hide c4; have R4 := hide ((unhide R3).on x4); have G4 := hide ((unhide G3).ext x4); have X4 : Hd (Ext w w4) := (unhide X3).trans x4; clear x4 c4)
            | (go_at_call 10; refine Calls.mono (unhide H2 w4 ga gc (unhide G4)) ?_; rintro e w5 ⟨oa, oc, rfl, x5⟩; have R5 := hide ((unhide R4).on x5); have G5 := hide ((unhide G4).ext x5); have X45 := hide x5; have X5 : Hd (Ext w w5) := (unhide X4).trans x5; clear x5))
          clear R3 R4 G3 G4 X3 X4 HG HX
          go_loopw [13] (fun t wz => ∃ (k : Nat), t = .int .i64 (k : Int) ∧ k ≤ i ∧ wz = w5) (fun t _ => i - (intOf t).toNat)
          case atStart => exact ⟨0, rfl, by omega, by first | rfl | trivial⟩
          case round =>
            obtain ⟨k, rfl, hk, hwz⟩ := hrel
            obtain rfl := hwz
            by_cases hlk : k < i
            · have hlk2 : (k : Int) < (i : Int) := by omega
              have ck := (unhide R5).cell k (v := .int .i64 (lnW f t k)) (by rw [zs, List.getElem?_map, List.getElem?_map, List.getElem?_range hlk]; rfl)
              have e : lnW f t k = (k : Int) - 1 := by unfold lnW; rw [if_neg (fun c => unhide HS c.1)]
              rw [e] at ck
              clear e
              go_wp2_with fail
              go_roundw
              case rel => first | exact ⟨k + 1, by go_num, by omega, by first | rfl | trivial⟩ | exact ⟨k + 1, by go_num, by omega⟩
              case measure => simp [intOf]; omega
            · obtain rfl : k = i := by omega
              go_wp2_with (first
                | (go_at_call 13; refine Calls.mono (unhide H4 wr ga gc (unhide G5)) ?_; rintro e w6 ⟨rfl, x6⟩; have X6 : Hd (Ext w w6) := (unhide X5).trans x6; clear x6)
                | (go_at_call 15; refine Calls.mono (unhide HA w6) ?_; rintro e w7 ⟨rfl, x7⟩; have X7 : Hd (Ext w w7) := (unhide X6).trans x7; clear x7))
              go_ret
              exact ⟨rfl, unhide X7⟩
      · have hls := unhide HL1 (by omega)
        subst hls
        have hft2 : ¬ (f : Int) < (t : Int) := by omega
        have hft3 : ¬ (f : Int) + 1 < (t : Int) := by omega
        have hdc : decide (t ≤ f) = true := by rw [decide_eq_true_iff]; omega
        rw [hdc] at H4
        clear hdc
        have HS : Hd (¬ f + 1 < t) := by show ¬ _; omega
        go_wp2_with (first
          | (go_at_call 9; refine Calls.mono (unhide H1 wr ga gc (unhide HG)) ?_; rintro e w3 ⟨db, rfl, r3, x3⟩; have R3 := hide r3; have G3 := hide ((unhide HG).ext x3); have X3 : Hd (Ext w w3) := (unhide HX).trans x3; clear r3 x3)
          | (go_at_call 12; refine Calls.mono (unhide H3 w3 ga gc (unhide G3)) ?_; rintro e w4 ⟨pa, pc, rfl, x4, c4⟩; have C4 := hide c4; have R4 := hide ((unhide R3).on x4); have G4 := hide ((unhide G3).ext x4); have X4 : Hd (Ext w w4) := (unhide X3).trans x4; clear x4 c4)
          | (go_at_call 10; refine Calls.mono (unhide H2 w4 ga gc (unhide G4)) ?_; rintro e w5 ⟨oa, oc, rfl, x5⟩; have R5 := hide ((unhide R4).on x5); have G5 := hide ((unhide G4).ext x5); have X45 := hide x5; have X5 : Hd (Ext w w5) := (unhide X4).trans x5; clear x5))
        clear R3 R4 G3 G4 X3 X4 HG HX
        obtain ⟨gl, aa, ac, e1, hpc, c0, c1, c2, hrb⟩ := unhide C4 _ rfl
        subst e1
        have c0 := (unhide X45).cell c0
        have c1 := (unhide X45).cell c1
        have c2 := (unhide X45).cell c2
        have HRb := hide (hrb.ext (unhide X45))
        obtain ⟨Lb, hLb⟩ : ∃ L, L = f + 1 - t := ⟨_, rfl⟩
        have hLi : (f : Int) - (t : Int) + 1 = (Lb : Int) := by omega
        obtain ⟨L1, hL1⟩ : ∃ L, L = f - t := ⟨_, rfl⟩
        have hLj : (Lb : Int) - 1 = (L1 : Int) := by omega
        have hLk : (L1 : Int) < (Lb : Int) := by omega
        have hLz : (0 : Int) < (Lb : Int) := by omega
        simp only [List.length_range', ← hLb] at c1
        have HB0 : Hd (∃ ab ao, aa = some ⟨ab, ao, none⟩ ∧ w5.cell? ⟨ab, ao, none⟩ = some (.int .i64 (t : Int)) ∧ w5.cell? ⟨ab, ao + L1, none⟩ = some (.int .i64 (f : Int))) := by
          obtain ⟨ab, ao, e1, _, k0⟩ := (unhide HRb).at (j := 0) (x := (t : Int)) (by rw [List.getElem?_map, List.getElem?_range' (by omega)]; simp)
          obtain ⟨ab2, ao2, e2, _, k1⟩ := (unhide HRb).at (j := L1) (x := (f : Int)) (by rw [List.getElem?_map, List.getElem?_range' (by omega)]; simp; omega)
          rw [e1] at e2
          injection e2 with e2
          injection e2 with e2 e3
          subst e2 e3
          exact ⟨ab, ao, e1, by simpa using k0, k1⟩
        obtain ⟨ab, ao, e1, k0, k1⟩ := unhide HB0
        subst e1
        have K0 := hide k0
        have K1 := hide k1
        have D0 := hide c0
        have D1 := hide c1
        have D2 := hide c2
        have hfi : (f : Int) < (i : Int) := by omega
        clear HB0 HRb hrb C4 hLb hL1 k0 k1 c0 c1 c2
        go_loopw [13] (fun t wz => ∃ (k : Nat), t = .int .i64 (k : Int) ∧ k ≤ i ∧ wz = w5) (fun t _ => i - (intOf t).toNat)
        case atStart => exact ⟨0, rfl, by omega, by first | rfl | trivial⟩
        case round =>
          obtain ⟨k, rfl, hk, hwz⟩ := hrel
          obtain rfl := hwz
          by_cases hlk : k < i
          · have hlk2 : (k : Int) < (i : Int) := by omega
            have ck := (unhide R5).cell k (v := .int .i64 (lnW f t k)) (by rw [zs, List.getElem?_map, List.getElem?_map, List.getElem?_range hlk]; rfl)
            have e : lnW f t k = (k : Int) - 1 := by unfold lnW; rw [if_neg (fun c => unhide HS c.1)]
            rw [e] at ck
            clear e
            go_wp2_with fail
            go_roundw
            case rel => first | exact ⟨k + 1, by go_num, by omega, by first | rfl | trivial⟩ | exact ⟨k + 1, by go_num, by omega⟩
            case measure => simp [intOf]; omega
          · obtain rfl : k = i := by omega
            have c0 := unhide D0
            have c1 := unhide D1
            have c2 := unhide D2
            simp only [oI] at c2
            go_wp2_with (first
              | (go_at_call 13; refine Calls.mono (unhide H4 wr ga gc (unhide G5)) ?_; rintro e w6 ⟨rfl, x6⟩; have X56 := hide x6; have X6 : Hd (Ext w w6) := (unhide X5).trans x6; have hmk6 := unhide hmk w6; clear x6))
            have HR6 : Hd (Row (w6.alloc (.cells ((Array.replicate k (Value.bool false)).setIfInBounds f (.bool true)) 4)) w6.heap.size 4 (bsV ((List.replicate k false).set f true))) := by
              have e : (Array.replicate k (Value.bool false)).setIfInBounds f (.bool true) = (bsV ((List.replicate k false).set f true)).toArray := by
                rw [← bs_set]; apply Array.ext'; simp [bsV]
              show Row _ _ _ _
              rw [e]; exact Row.new _ _ _
            have X68 := hide (Ext.alloc w6 (.cells ((Array.replicate k (Value.bool false)).setIfInBounds f (.bool true)) 4))
            generalize w6.alloc (.cells ((Array.replicate k (Value.bool false)).setIfInBounds f (.bool true)) 4) = w8 at HR6 X68 ⊢
            have X58 := hide ((unhide X56).trans (unhide X68))
            clear c0 c1 c2 D0 D2 hmk6
            have k1 : ∀ v : RGw w8, v.w.cell? ⟨gl, 1, none⟩ = some (.slice (some ⟨ab, ao, none⟩) Lb ac) := fun v => v.h.cell ((unhide X58).cell (unhide D1))
            have k2 : ∀ v : RGw w8, v.w.cell? ⟨ab, ao, none⟩ = some (.int .i64 (t : Int)) := fun v => v.h.cell ((unhide X58).cell (unhide K0))
            have k3 : ∀ v : RGw w8, v.w.cell? ⟨ab, ao + L1, none⟩ = some (.int .i64 (f : Int)) := fun v => v.h.cell ((unhide X58).cell (unhide K1))
            have HCy : Hd (∀ v : RGw w8, Calls Try.prog 13 #[.slice ga k gc, .slice (some ⟨w6.heap.size, 0, none⟩) k k] v.w fun e w' => e = .returned (.bool false) ∧ Ext v.w w') := fun v => unhide H5 v.w ga gc w6.heap.size (((unhide G5).ext (unhide X58)).ext v.h) ((unhide HR6).on v.h)
            have htt : ((t : Int) == (t : Int)) = true := by simp
            have hff : ((f : Int) == (f : Int)) = true := by simp
            have hne8 : Nonempty (RGw w8) := ⟨⟨w8, Ext.refl _⟩⟩
            refine wp_region_rx (W := w8) (by kernel_rfl) (by kernel_rfl) (Ext.refl _) ?_
            try simp only [List.append_eq, List.cons_append, List.nil_append]
            repeat (go_big_quiet_step (first | (go_at_call 13; exact Calls.rx_of _ _ (unhide HCy _)) | (go_at_call 15; exact Calls.rx_of _ _ (unhide HA _))))
            refine wpQuiet_nil ?_
            rintro _ ⟨⟨w9, hx9⟩, rfl⟩
            have HX9 := hide hx9
            clear hx9
            go_wp2_with fail
            go_ret
            exact ⟨rfl, ((unhide X6).trans (unhide X68)).trans (unhide HX9)⟩

end Go.Proofs.Ytmhcecofknemkaa
