/- Whether a tree can be laid: one node has its parts. · Whether a tree can be laid. · Trees, texts and functions that lie anywhere in a world. · Functions are looked through. -/
import Derived.Test.YtlgdjeiendmniaaGreatDoorZg35
import Derived.Deep.LoopGhost
import Derived.Test.YtlgdjeiendmniaaGreatDoorZg26
set_option linter.unusedSimpArgs false
set_option linter.unusedVariables false
set_option maxRecDepth 10000

namespace Go.Proofs.YtlgdjeiendmniaaGreatDoor
open Go.RowKit

variable {g : Nat} {w w' w2 : World}

theorem NdAt.ext {x : PN} {nb no : Nat} (h : NdAt w g x nb no) (hg : g ≤ w.heap.size) (k : Ext w w') : NdAt w' g x nb no := h.low (fun b hb => k.block b (by omega))

set_option maxHeartbeats 8000000 in
theorem hasP_m {x : PN} {nb no : Nat} (hS : Shp w) (hg : g ≤ w.heap.size) (hN : NdAt w g x nb no) (hl : x.l.length ≤ 1000000) (r : Bool) (hr : hasP x = some r) :
    Calls Tryz.prog 33 #[.pointer (some ⟨nb, no, none⟩)] w fun e w' => e = .returned (.bool r) ∧ Ext w w' := by
  unfold hasP at hr
  split at hr
  case isFalse => cases hr
  rename_i hk0
  obtain ⟨k, hk⟩ : ∃ k : Nat, x.k = (k : Int) := ⟨x.k.toNat, by omega⟩
  rw [hk, Int.toNat_natCast] at hr
  cases ht : shpL[k]? with
  | none => rw [ht] at hr; cases hr
  | some t =>
  rw [ht] at hr
  obtain ⟨a, b, e⟩ := t
  simp only at hr
  have hk22 : k < 22 := (List.getElem?_eq_some_iff.1 ht).1
  obtain ⟨s0, s1, s2⟩ := hS.at ht
  simp only at s0 s1 s2
  have HN := hide hN
  obtain ⟨h1, sa, cap, k0, k1, k2, k3, k4, hc, _⟩ := hN
  rw [hk] at k0
  have hkI : (k : Int) < 22 := by omega
  obtain ⟨W, hW⟩ : ∃ W, W = w.alloc (.cells #[.int .i64 a, .int .i64 b, .int .i64 e] 119) := ⟨_, rfl⟩
  have XW : Ext w W := by rw [hW]; exact Ext.alloc _ _
  have rW : W.heap[w.heap.size]? = some (.cells #[.int .i64 a, .int .i64 b, .int .i64 e] 119 (0, 0)) := by rw [hW]; exact Go.heap_alloc_new w _
  have XH := hide XW
  have RW := hide rW
  have y0 : ∀ v : RGw W, v.w.cell? ⟨w.heap.size, 0, none⟩ = some (.int .i64 a) := fun v => v.h.cell (rowC rW 0 rfl)
  have y1 : ∀ v : RGw W, v.w.cell? ⟨w.heap.size, 1, none⟩ = some (.int .i64 b) := fun v => v.h.cell (rowC rW 1 rfl)
  have y4 : ∀ v : RGw W, v.w.cell? ⟨nb, no + 4, none⟩ = some (.slice sa x.l.length cap) := fun v => v.h.cell (XW.cell k4)
  have hne : Nonempty (RGw W) := ⟨⟨W, Ext.refl _⟩⟩
  have HW := hide hW
  clear XW rW hk hk0 ht hS hW
  generalize hnl : x.l.length = n at *
  by_cases ha : (n : Int) < a
  · rw [if_pos (Or.inl ha)] at hr
    injection hr with hr
    subst hr
    have ha2 : decide ((n : Int) < a) = true := decide_eq_true ha
    go_enter Tryz.func33, Tryz.ntmps33
    go_wp2_with fail
    refine wp_region_rx (W := W) (by kernel_rfl) (by kernel_rfl) (by rw [unhide HW]; exact Ext.refl _) ?_
    try simp only [List.append_eq, List.cons_append, List.nil_append]
    repeat (go_big_quiet_step (fail))
    refine wpQuiet_nil ?_
    rintro w8 ⟨⟨_, hx⟩, rfl⟩
    have X8 := hide ((unhide XH).trans hx)
    clear hx
    go_wp2_with fail
    go_ret
    exact ⟨rfl, unhide X8⟩
  · have ha2 : decide ((n : Int) < a) = false := decide_eq_false ha
    by_cases hb : b < (n : Int)
    · rw [if_pos (Or.inr hb)] at hr
      injection hr with hr
      subst hr
      have hb2 : decide (b < (n : Int)) = true := decide_eq_true hb
      go_enter Tryz.func33, Tryz.ntmps33
      go_wp2_with fail
      refine wp_region_rx (W := W) (by kernel_rfl) (by kernel_rfl) (by rw [unhide HW]; exact Ext.refl _) ?_
      try simp only [List.append_eq, List.cons_append, List.nil_append]
      repeat (go_big_quiet_step (fail))
      refine wpQuiet_nil ?_
      rintro w8 ⟨⟨_, hx⟩, rfl⟩
      have X8 := hide ((unhide XH).trans hx)
      clear hx
      go_wp2_with fail
      go_ret
      exact ⟨rfl, unhide X8⟩
    · rw [if_neg (fun h => h.elim ha hb)] at hr
      injection hr with hr
      have hb2 : decide (b < (n : Int)) = false := decide_eq_false hb
      have HR := hide hr
      clear hr
      go_enter Tryz.func33, Tryz.ntmps33
      go_wp2_with fail
      refine wp_region_rx (W := W) (by kernel_rfl) (by kernel_rfl) (by rw [unhide HW]; exact Ext.refl _) ?_
      try simp only [List.append_eq, List.cons_append, List.nil_append]
      repeat (go_big_quiet_step (fail))
      refine wpQuiet_nil ?_
      rintro w8 ⟨⟨_, hx⟩, rfl⟩
      have X8 := hide ((unhide XH).trans hx)
      have R8 := hide (hx.row (unhide RW))
      have q4 := (unhide X8).cell k4
      clear hx hne y0 y1 y4 k0 k1 k2 k3 k4 s0 s1 s2
      go_wp2_with fail
      go_loopw [35] (fun t wr => ∃ (j : Nat), t = .int .i64 (j : Int) ∧ j ≤ n ∧ Hd (Ext w8 wr) ∧ Hd (prtL e (x.l.drop j) (j : Int) = r)) (fun t _ => n - (intOf t).toNat)
      case atStart => exact ⟨0, rfl, by omega, Ext.refl _, by simpa [Hd] using unhide HR⟩
      case round =>
        clear q4
        obtain ⟨j, rfl, hj, hX, hE⟩ := hrel
        have XR : Hd (Ext w wr) := (unhide X8).trans (unhide hX)
        by_cases hlt : j < n
        · have hlt2 : (j : Int) < (n : Int) := by omega
          have hlt3 : j < x.l.length := by omega
          obtain ⟨q, hq⟩ : ∃ q, x.l[j]? = some q := ⟨_, List.getElem?_eq_getElem hlt3⟩
          have hE2 := unhide hE
          rw [List.drop_eq_getElem_cons hlt3, (List.getElem?_eq_some_iff.1 hq).2, prtL] at hE2
          obtain ⟨cb, co, cap2, q4, hcap2, hch⟩ := ((unhide HN).ext hg (unhide XR)).child hq
          rw [hnl] at q4
          obtain ⟨_, _, _, z0, _⟩ := hch
          have e2 := rowC (((unhide hX).row (unhide R8))) 2 rfl
          have HX := hide (fun W => isEx_any q.k W)
          have HT := hide (fun W => isSt_any q.k W)
          have HE2 := hide hE2
          clear hE2 hq hE
          by_cases hje : (j : Int) < e
          · have hje2 : decide ((j : Int) < e) = true := decide_eq_true hje
            have hje3 : decide (e ≤ (j : Int)) = false := decide_eq_false (by omega)
            have hE3 := unhide HE2
            rw [if_pos hje] at hE3
            cases hx : isEx q.k with
            | true =>
              rw [hx, Bool.true_and] at hE3
              have HE3 := hide hE3
              have HX2 : Hd (∀ W, Calls Tryz.prog 55 #[.int .i64 q.k] W fun e w' => e = .returned (.bool true) ∧ w' = W) := fun W => by have := unhide HX W; rw [hx] at this; exact this
              clear hE3 HE2 hx HX
              go_wp2_with (go_at_call 55; refine Calls.mono (unhide HX2 _) ?_; rintro e w1 ⟨rfl, hw⟩; obtain rfl := hw.symm)
              go_roundw
              case rel => exact ⟨j + 1, by go_num, by omega, hX, by have := unhide HE3; rw [show ((j + 1 : Nat) : Int) = (j : Int) + 1 by omega]; exact this⟩
              case measure => simp [intOf]; omega
            | false =>
              rw [hx, Bool.false_and] at hE3
              have HX2 : Hd (∀ W, Calls Tryz.prog 55 #[.int .i64 q.k] W fun e w' => e = .returned (.bool false) ∧ w' = W) := fun W => by have := unhide HX W; rw [hx] at this; exact this
              subst hE3
              clear HE2 hx HX
              go_wp2_with (go_at_call 55; refine Calls.mono (unhide HX2 _) ?_; rintro e w1 ⟨rfl, hw⟩; obtain rfl := hw.symm)
              go_ret
              exact ⟨rfl, unhide XR⟩
          · have hje2 : decide ((j : Int) < e) = false := decide_eq_false hje
            have hje3 : decide (e ≤ (j : Int)) = true := decide_eq_true (by omega)
            have hje4 : e ≤ (j : Int) := by omega
            have hE3 := unhide HE2
            rw [if_neg hje] at hE3
            cases hx : isSt q.k with
            | true =>
              rw [hx, Bool.true_and] at hE3
              have HE3 := hide hE3
              have HX2 : Hd (∀ W, Calls Tryz.prog 32 #[.int .i64 q.k] W fun e w' => e = .returned (.bool true) ∧ w' = W) := fun W => by have := unhide HT W; rw [hx] at this; exact this
              clear hE3 HE2 hx HT
              go_wp2_with (go_at_call 32; refine Calls.mono (unhide HX2 _) ?_; rintro e w1 ⟨rfl, hw⟩; obtain rfl := hw.symm)
              go_roundw
              case rel => exact ⟨j + 1, by go_num, by omega, hX, by have := unhide HE3; rw [show ((j + 1 : Nat) : Int) = (j : Int) + 1 by omega]; exact this⟩
              case measure => simp [intOf]; omega
            | false =>
              rw [hx, Bool.false_and] at hE3
              have HX2 : Hd (∀ W, Calls Tryz.prog 32 #[.int .i64 q.k] W fun e w' => e = .returned (.bool false) ∧ w' = W) := fun W => by have := unhide HT W; rw [hx] at this; exact this
              subst hE3
              clear HE2 hx HT
              go_wp2_with (go_at_call 32; refine Calls.mono (unhide HX2 _) ?_; rintro e w1 ⟨rfl, hw⟩; obtain rfl := hw.symm)
              go_ret
              exact ⟨rfl, unhide XR⟩
        · obtain rfl : n = j := by omega
          have hE2 := unhide hE
          rw [← hnl, List.drop_length, prtL] at hE2
          subst hE2
          go_wp2_with fail
          go_ret
          exact ⟨rfl, unhide XR⟩

end Go.Proofs.YtlgdjeiendmniaaGreatDoor

namespace Go.Proofs.YtlgdjeiendmniaaGreatDoor
open Go.RowKit

variable {g : Nat} {w w' w2 : World}

abbrev ptV (p : Nat × Nat) : Value := .pointer (some ⟨p.1, p.2, none⟩)
/-- What is open: the trees, the last first, and where they lie. -/
structure OpI (g : Nat) (w wr : World) (st : List PN) (ads : List (Nat × Nat)) (oa : Option Addr) (oc : Nat) : Prop where
  ext : Ext w wr
  len : ads.length = st.length
  own : wr.ownsRow w.heap.size 56 1 (.slice oa st.length oc) st.length (ads.reverse.map ptV)
  nd : ∀ (i : Nat) (x : PN) (p : Nat × Nat), st[i]? = some x → ads[i]? = some p → NdAt w g x p.1 p.2
theorem infoPt : (Tryz.prog.info? 56).map (fun i => (i.zero, i.size, i.bytes)) = some (some (.pointer none), 1, 8) := by kernel_rfl
theorem one_pt (p : Nat × Nat) : ∀ u ∈ ([ptV p] : List Value), u.oneCell' = true := by
  intro u hu
  simp at hu
  subst hu
  rfl
theorem own_cutM {base : Nat} {t : TypeId} {a : Option Addr} {n m cap : Nat} {xs : List Value} (h : w.ownsRow base t 1 (.slice a n cap) n xs) (hm : m ≤ n) : w.ownsRow base t 1 (.slice a m cap) m (xs.take m) := by
  obtain ⟨h1, h2⟩ := h
  refine ⟨by rw [List.length_take]; omega, ?_⟩
  rcases h2 with ⟨e, h0⟩ | ⟨g, cap2, cur, e, hb, hg, hn, hcm, hcs, ht⟩
  · injection e with e1 e2 e3
    subst e1 e3
    have : m = 0 := by omega
    subst this
    exact Or.inl ⟨rfl, rfl⟩
  · injection e with e1 e2 e3
    subst e1 e3
    refine Or.inr ⟨g, cap, cur, rfl, hb, hg, by omega, hcm, hcs, ?_⟩
    rw [← ht, List.take_take]
    congr 1
    omega
theorem OpI.on {wr w3 : World} {st : List PN} {ads : List (Nat × Nat)} {oa : Option Addr} {oc : Nat} (h : OpI g w wr st ads oa oc) (k : Ext wr w3) : OpI g w w3 st ads oa oc := ⟨h.ext.trans k, h.len, own_extM h.own k, h.nd⟩
theorem OpI.pop {wr : World} {x : PN} {st : List PN} {ads : List (Nat × Nat)} {oa : Option Addr} {oc : Nat} (h : OpI g w wr (x :: st) ads oa oc) : ∃ p ads', ads = p :: ads' ∧ NdAt w g x p.1 p.2 ∧ (∃ b, oa = some ⟨b, 0, none⟩ ∧ wr.cell? ⟨b, st.length, none⟩ = some (ptV p)) ∧ st.length + 1 ≤ oc ∧ OpI g w wr st ads' oa oc := by
  have hl := h.len
  cases ads with
  | nil => simp at hl
  | cons p ads' =>
    simp only [List.length_cons] at hl
    have hl' : ads'.length = st.length := by omega
    refine ⟨p, ads', rfl, h.nd 0 x p rfl rfl, ?_, ?_, h.ext, hl', ?_, fun i y q h1 h2 => h.nd (i + 1) y q (by simpa using h1) (by simpa using h2)⟩
    · rcases id h.own.2 with ⟨e, e0⟩ | ⟨b, cap, cur, e, hb, hg, hn, _⟩
      · simp at e0
      · injection e with e1 e2 e3
        subst e1 e3
        have hc : ((p :: ads').reverse.map ptV)[st.length]? = some (ptV p) := by
          rw [List.reverse_cons, List.map_append, List.getElem?_append_right (by simp [hl'])]
          simp [hl']
        have k0 := h.own.cells (g := b) rfl _ _ hc
        have e : ∀ n, (⟨b, 0, none⟩ : Addr).add n = ⟨b, n, none⟩ := fun n => by cases n <;> simp [Addr.add]
        rw [e] at k0
        exact ⟨b, rfl, k0⟩
    · rcases id h.own.2 with ⟨e, e0⟩ | ⟨b, cap, cur, e, hb, hg, hn, _⟩
      · simp at e0
      · injection e with e1 e2 e3
        simpa [← e3] using hn
    · have := own_cutM (m := st.length) h.own (by simp)
      rw [List.reverse_cons, List.map_append, List.take_append_of_le_length (by simp [hl']), List.take_of_length_le (by simp [hl'])] at this
      exact this
theorem OpI.push {wr w3 : World} {st : List PN} {ads : List (Nat × Nat)} {oa : Option Addr} {oc g' cap' : Nat} {ob : Obj} (h : OpI g w wr st ads oa oc) (x : PN) (p : Nat × Nat) (hN : NdAt w g x p.1 p.2)
    (g1 : (wr.alloc ob).grownBy w3 (Value.slice oa st.length oc).ownBlock) (ho : w3.ownsRow w.heap.size 56 1 (.slice (some ⟨g', 0, none⟩) (st.length + 1) cap') (st.length + 1) (ads.reverse.map ptV ++ [ptV p])) : OpI g w w3 (x :: st) (p :: ads) (some ⟨g', 0, none⟩) cap' := by
  have hX := h.ext.trans (Ext.alloc wr ob)
  refine ⟨Below.grown hX g1 hX.size (fun j hj => (h.own.lt j hj).1), by simp [h.len], ?_, fun i y q h1 h2 => ?_⟩
  · rw [List.reverse_cons, List.map_append]
    exact ho
  · cases i with
    | zero =>
      simp at h1 h2
      subst h1 h2
      exact hN
    | succ i => exact h.nd i y q (by simpa using h1) (by simpa using h2)

set_option maxHeartbeats 8000000 in
theorem canL_m {x : PN} {nb no : Nat} (F : Nat) (r : Bool) (hS : Shp w) (hg : g ≤ w.heap.size) (hN : NdAt w g x nb no) (hr : canP F x = some r) :
    Calls Tryz.prog 16 #[.pointer (some ⟨nb, no, none⟩)] w fun e w' => e = .returned (.bool r) ∧ Ext w w' := by
  have HI := hide (fun W => isSt_any x.k W)
  have HS := hide hS
  have HN := hide hN
  obtain ⟨h1, sa, cap, k0, k1, k2, k3, k4, hc, _⟩ := hN
  unfold canP at hr
  cases hst : isSt x.k with
  | false =>
    rw [hst] at hr
    injection hr with hr
    subst hr
    have HI2 : Hd (∀ W, Calls Tryz.prog 32 #[.int .i64 x.k] W fun e w' => e = .returned (.bool false) ∧ w' = W) := fun W => by have := unhide HI W; rw [hst] at this; exact this
    clear HI hst hS
    go_enter Tryz.func16, Tryz.ntmps16
    go_wp2_with (go_at_call 32; refine Calls.mono (unhide HI2 _) ?_; rintro e w1 ⟨rfl, hw⟩; obtain rfl := hw.symm)
    go_ret
    exact ⟨rfl, Ext.refl _⟩
  | true =>
    rw [hst, if_pos rfl] at hr
    have HI2 : Hd (∀ W, Calls Tryz.prog 32 #[.int .i64 x.k] W fun e w' => e = .returned (.bool true) ∧ w' = W) := fun W => by have := unhide HI W; rw [hst] at this; exact this
    have HR := hide hr
    obtain ⟨i0, hi, hz0, hz1, hz2⟩ := info_parts infoPt
    have HII := hide hi
    have Z0 := hide hz0
    have Z1 := hide hz1
    have Z2 := hide hz2
    clear hi hz0 hz1 hz2 HI hst hr hS
    go_enter Tryz.func16, Tryz.ntmps16
    go_wp2_with (go_at_call 32; refine Calls.mono (unhide HI2 _) ?_; rintro e w1 ⟨rfl, hw⟩; obtain rfl := hw.symm)
    go_loopg [3, 4] F (fun gk t3 t4 wr => ∃ (st : List PN) (ads : List (Nat × Nat)) (c : Nat) (oa : Option Addr) (oc : Nat), t3 = .slice oa st.length oc ∧ t4 = .int .i64 (c : Int) ∧ c ≤ 1001 ∧ Hd (OpI g w wr st ads oa oc) ∧ Hd (canL gk st c = some r))
    case atStart =>
      refine ⟨[x], [(nb, no)], 0, some ⟨w.heap.size, 0, none⟩, 1, rfl, rfl, by omega, ⟨Ext.alloc _ _, rfl, ?_, fun i y q h1 h2 => ?_⟩, HR⟩
      · exact ⟨rfl, Or.inr ⟨w.heap.size, 1, #[ptV (nb, no)], rfl, Nat.le_refl _, Go.heap_alloc_new w _, Nat.le_refl _, by decide, rfl, rfl⟩⟩
      · cases i with
        | zero => simp at h1 h2; subst h1 h2; exact unhide HN
        | succ i => simp at h1
    case round =>
      clear k0 k1 k2 k3 k4
      obtain ⟨st, ads, c, oa, oc, rfl, rfl, hc9, hO, hE⟩ := hrel
      cases gk with
      | zero => have := unhide hE; rw [canL] at this; cases this
      | succ gk =>
      cases st with
      | nil =>
        have hE2 := unhide hE
        rw [canL] at hE2
        injection hE2 with hE2
        have X0 := hide (unhide hO).ext
        have hE3 : decide ((c : Int) ≤ 1000) = r := by rw [← hE2]; simp; omega
        clear hE2 hE
        go_wp2_with fail
        go_ret
        exact ⟨ret_bool (by simp [hE3]), unhide X0⟩
      | cons y s =>
        have hE2 := unhide hE
        rw [canL] at hE2
        by_cases hc1 : 1000 < c
        · rw [if_pos hc1] at hE2
          injection hE2 with hE2
          subst hE2
          have X0 := hide (unhide hO).ext
          have hc2 : ¬ (c : Int) ≤ 1000 := by omega
          have hc3 : decide ((c : Int) ≤ 1000) = false := decide_eq_false hc2
          have hlp : (0 : Int) < ((s.length : Int) + 1) := by omega
          clear hE
          simp only [List.length_cons]
          generalize s.length = n at *
          go_wp2_with fail
          go_ret
          exact ⟨ret_bool (by simp [hc3]), unhide X0⟩
        · rw [if_neg hc1] at hE2
          split at hE2
          · cases hE2
          rename_i hnn
          have hk17 : y.k ≠ 17 := fun h => hnn (Or.inl h)
          have hyl : y.l.length ≤ 1000000 := Nat.le_of_not_lt (fun h => hnn (Or.inr (Or.inl h)))
          have hsl : s.length ≤ 1000000 := Nat.le_of_not_lt (fun h => hnn (Or.inr (Or.inr h)))
          obtain ⟨p, ads', rfl, hNd, ⟨b, e1, kp⟩, hoc, hO2⟩ := (unhide hO).pop
          subst e1
          have X0 := hide hO2.ext
          have HO2 := hide hO2
          have ND := hide hNd
          have hgr : g ≤ wr.heap.size := Nat.le_trans hg (unhide X0).size
          have ndr : NdAt wr g y p.1 p.2 := hNd.ext hg (unhide X0)
          have hc2 : (c : Int) ≤ 1000 := by omega
          have hc3 : decide ((c : Int) ≤ 1000) = true := decide_eq_true hc2
          have hoc2 : (s.length : Int) + 1 ≤ (oc : Int) := by omega
          cases hp : hasP y with
          | none => rw [hp] at hE2; cases hE2
          | some hb =>
          have HP := hide (hasP_m ((unhide HS).ext (unhide X0)) hgr ndr hyl hb hp)
          have HTx := hide (fun (W : World) (hX : Ext wr W) => notText_m (ndr.ext hgr hX) hk17)
          rw [hp] at hE2
          cases hb with
          | false =>
            simp only at hE2
            injection hE2 with hE2
            subst hE2
            clear hE hp hnn hO2 hNd ndr
            simp only [List.length_cons]
            generalize s.length = n at *
            go_wp2_with (go_at_call 33; refine Calls.mono (unhide HP) ?_; rintro e w1 ⟨rfl, hx⟩; have X1 := hide ((unhide X0).trans hx); clear hx)
            go_ret
            exact ⟨rfl, unhide X1⟩
          | true =>
            simp only at hE2
            have HE2 := hide hE2
            clear hE2 hE hp hnn hO2 hNd
            have HND : Hd (∀ W, Ext wr W → NdAt W g y p.1 p.2) := fun W hX => ndr.ext hgr hX
            clear ndr
            obtain ⟨p1, p2⟩ := p
            simp only at HP HTx HND kp
            generalize hgs : s.length = n at *
            by_cases hk10 : y.k = 10
            · have HE3 : Hd (canL gk (y.l.reverse ++ s) c = some r) := by have := unhide HE2; rw [if_pos hk10] at this; exact this
              have hkb : (y.k == 10) = true := by rw [hk10]; rfl
              have hkc : (y.k != 10) = false := by rw [hk10]; rfl
              clear HE2
              go_wp2_with (first
                | (go_at_call 33; refine Calls.mono (unhide HP) ?_; rintro e w1 ⟨rfl, hx⟩; have X1 := hide hx; clear hx)
                | (go_at_call 34; refine Calls.mono (unhide HTx w1 (unhide X1)) ?_; rintro e w2 ⟨rfl, hx⟩; have X2 := hide ((unhide X1).trans hx); obtain ⟨_, sa2, cap2, j0, j1, j2, j3, j4, hcap2, _⟩ := unhide HND _ (unhide X2); clear hx))
              go_loopw [3, 52] (fun t3 t52 wz => ∃ (j : Nat) (ads2 : List (Nat × Nat)) (oa2 : Option Addr) (oc2 : Nat), t3 = .slice oa2 (j + n) oc2 ∧ t52 = .int .i64 (j : Int) ∧ j ≤ y.l.length ∧ Hd (OpI g w wz ((y.l.take j).reverse ++ s) ads2 oa2 oc2)) (fun _ t _ => y.l.length - (intOf t).toNat)
              case atStart => exact ⟨0, ads', _, oc, by rw [Nat.zero_add], rfl, by omega, (unhide HO2).on (unhide X2)⟩
              case round =>
                clear j0 j1 j2 j3 j4
                obtain ⟨j, ads2, oa2, oc2, rfl, rfl, hj, hO3⟩ := hrel
                have hln : ((y.l.take j).reverse ++ s).length = j + n := by simp [hgs]; omega
                by_cases hlt : j < y.l.length
                · have hlt2 : (j : Int) < (y.l.length : Int) := by omega
                  obtain ⟨q, hq⟩ : ∃ q, y.l[j]? = some q := ⟨_, List.getElem?_eq_getElem hlt⟩
                  obtain ⟨cb, co, cap3, z4, hcap3, hch⟩ := (unhide ND).child hq
                  have z4 := (unhide hO3).ext.cell z4
                  have hst2 : (y.l.take (j + 1)).reverse ++ s = q :: ((y.l.take j).reverse ++ s) := by rw [List.take_add_one, hq]; simp
                  have hown := (unhide hO3).own
                  rw [hln] at hown
                  have HOw := hide (fun ob => own_extM hown (Ext.alloc wr ob))
                  have hsz := (unhide hO3).ext.size
                  have HPush := hide (fun (w3 : World) (ob : Obj) (g' cap' : Nat) (g1 : (wr.alloc ob).grownBy w3 (Value.slice oa2 (j + n) oc2).ownBlock) (ho : w3.ownsRow w.heap.size 56 1 (.slice (some ⟨g', 0, none⟩) (j + n + 1) cap') (j + n + 1) (ads2.reverse.map ptV ++ [ptV (cb, co + j * 5)])) => (unhide hO3).push (oa := oa2) (oc := oc2) q (cb, co + j * 5) hch (by rw [hln]; exact g1) (by rw [hln]; exact ho))
                  clear hq hch hown
                  go_wp2_with (at_builtin; refine wpList_append_where rfl (.tmp 55) (.tmp 62) 91 rfl w.heap.size 56 i0 (.pointer none) 1 8 Tryz.underlying91 (unhide HII) (unhide Z0) (unhide Z1) (unhide Z2) rfl (by decide) oa2 (j + n) oc2 (ads2.reverse.map ptV) rfl (unhide HOw _) ⟨wr.heap.size, 0, none⟩ 1 1 [ptV (cb, co + j * 5)] rfl (by decide) rfl (cells_new wr _ _) (one_pt _) ?c1 ?c2 ?c3 ?_)
                  case c1 => unfold maxLen; omega
                  case c2 => omega
                  case c3 => simp; omega
                  intro g2 cap6 w6 ho6 hg6 hw6
                  rw [← List.map_reverse] at ho6
                  have SP := hide (unhide HPush w6 _ g2 cap6 hg6 ho6)
                  clear ho6 hg6 hw6 HPush
                  go_wp2_with fail
                  go_roundw
                  case rel => exact ⟨j + 1, _, _, _, by rw [show j + 1 + n = j + n + 1 by omega], by go_num, by omega, by rw [hst2]; exact SP⟩
                  case measure => simp [intOf]; omega
                · obtain rfl : y.l.length = j := by omega
                  have hO4 := unhide hO3
                  rw [List.take_length] at hO4
                  have HO4 := hide hO4
                  clear hO4
                  go_wp2_with fail
                  go_roundg gk
                  case rel => exact ⟨_, _, c, _, _, by rw [List.length_append, List.length_reverse, hgs], by go_num, by omega, HO4, HE3⟩
                  case measure => omega
            · have HE3 : Hd (canL gk (y.l.reverse ++ s) (c + 1) = some r) := by have := unhide HE2; rw [if_neg hk10] at this; exact this
              have hkb : (y.k == 10) = false := by rw [beq_eq_false_iff_ne]; exact hk10
              have hkc : (y.k != 10) = true := by rw [bne_iff_ne]; exact hk10
              clear HE2
              go_wp2_with (first
                | (go_at_call 33; refine Calls.mono (unhide HP) ?_; rintro e w1 ⟨rfl, hx⟩; have X1 := hide hx; clear hx)
                | (go_at_call 34; refine Calls.mono (unhide HTx w1 (unhide X1)) ?_; rintro e w2 ⟨rfl, hx⟩; have X2 := hide ((unhide X1).trans hx); obtain ⟨_, sa2, cap2, j0, j1, j2, j3, j4, hcap2, _⟩ := unhide HND _ (unhide X2); clear hx))
              go_loopw [3, 52] (fun t3 t52 wz => ∃ (j : Nat) (ads2 : List (Nat × Nat)) (oa2 : Option Addr) (oc2 : Nat), t3 = .slice oa2 (j + n) oc2 ∧ t52 = .int .i64 (j : Int) ∧ j ≤ y.l.length ∧ Hd (OpI g w wz ((y.l.take j).reverse ++ s) ads2 oa2 oc2)) (fun _ t _ => y.l.length - (intOf t).toNat)
              case atStart => exact ⟨0, ads', _, oc, by rw [Nat.zero_add], rfl, by omega, (unhide HO2).on (unhide X2)⟩
              case round =>
                clear j0 j1 j2 j3 j4
                obtain ⟨j, ads2, oa2, oc2, rfl, rfl, hj, hO3⟩ := hrel
                have hln : ((y.l.take j).reverse ++ s).length = j + n := by simp [hgs]; omega
                by_cases hlt : j < y.l.length
                · have hlt2 : (j : Int) < (y.l.length : Int) := by omega
                  obtain ⟨q, hq⟩ : ∃ q, y.l[j]? = some q := ⟨_, List.getElem?_eq_getElem hlt⟩
                  obtain ⟨cb, co, cap3, z4, hcap3, hch⟩ := (unhide ND).child hq
                  have z4 := (unhide hO3).ext.cell z4
                  have hst2 : (y.l.take (j + 1)).reverse ++ s = q :: ((y.l.take j).reverse ++ s) := by rw [List.take_add_one, hq]; simp
                  have hown := (unhide hO3).own
                  rw [hln] at hown
                  have HOw := hide (fun ob => own_extM hown (Ext.alloc wr ob))
                  have hsz := (unhide hO3).ext.size
                  have HPush := hide (fun (w3 : World) (ob : Obj) (g' cap' : Nat) (g1 : (wr.alloc ob).grownBy w3 (Value.slice oa2 (j + n) oc2).ownBlock) (ho : w3.ownsRow w.heap.size 56 1 (.slice (some ⟨g', 0, none⟩) (j + n + 1) cap') (j + n + 1) (ads2.reverse.map ptV ++ [ptV (cb, co + j * 5)])) => (unhide hO3).push (oa := oa2) (oc := oc2) q (cb, co + j * 5) hch (by rw [hln]; exact g1) (by rw [hln]; exact ho))
                  clear hq hch hown
                  go_wp2_with (at_builtin; refine wpList_append_where rfl (.tmp 55) (.tmp 62) 91 rfl w.heap.size 56 i0 (.pointer none) 1 8 Tryz.underlying91 (unhide HII) (unhide Z0) (unhide Z1) (unhide Z2) rfl (by decide) oa2 (j + n) oc2 (ads2.reverse.map ptV) rfl (unhide HOw _) ⟨wr.heap.size, 0, none⟩ 1 1 [ptV (cb, co + j * 5)] rfl (by decide) rfl (cells_new wr _ _) (one_pt _) ?c1 ?c2 ?c3 ?_)
                  case c1 => unfold maxLen; omega
                  case c2 => omega
                  case c3 => simp; omega
                  intro g2 cap6 w6 ho6 hg6 hw6
                  rw [← List.map_reverse] at ho6
                  have SP := hide (unhide HPush w6 _ g2 cap6 hg6 ho6)
                  clear ho6 hg6 hw6 HPush
                  go_wp2_with fail
                  go_roundw
                  case rel => exact ⟨j + 1, _, _, _, by rw [show j + 1 + n = j + n + 1 by omega], by go_num, by omega, by rw [hst2]; exact SP⟩
                  case measure => simp [intOf]; omega
                · obtain rfl : y.l.length = j := by omega
                  have hO4 := unhide hO3
                  rw [List.take_length] at hO4
                  have HO4 := hide hO4
                  clear hO4
                  go_wp2_with fail
                  go_roundg gk
                  case rel => exact ⟨_, _, c + 1, _, _, by rw [List.length_append, List.length_reverse, hgs], by go_num, by omega, HO4, HE3⟩
                  case measure => omega

end Go.Proofs.YtlgdjeiendmniaaGreatDoor

namespace Go.Proofs.YtlgdjeiendmniaaGreatDoor
open Go.RowKit

def InW (w : World) : Nat → Prop := fun b => b < w.heap.size
theorem RepN.inw {w w' : World} {p : PN} {v : Value} (h : RepN w (InW w) p v) (k : Ext w w') : RepN w' (InW w') p v := RepN.to (fun b hb => ⟨Nat.lt_of_lt_of_le hb k.size, k.block b hb⟩) p v h
theorem RepNL.inw {w w' : World} {l : List PN} {a : Option Addr} (h : RepNL w (InW w) l a) (k : Ext w w') : RepNL w' (InW w') l a := RepNL.to (fun b hb => ⟨Nat.lt_of_lt_of_le hb k.size, k.block b hb⟩) l a h
/-- The cells of a tree in a list, in a world behind. -/
theorem repNL_at {w : World} {F : Nat → Prop} : ∀ {l : List PN} {a : Option Addr}, RepNL w F l a → ∀ (i : Nat) (p : PN), l[i]? = some p → ∃ b off c0 c1 c2 c3 c4, a = some ⟨b, off, none⟩ ∧ F b ∧ RepN w F p (.agg #[c0, c1, c2, c3, c4]) ∧
      w.cell? ⟨b, off + i * 5, none⟩ = some c0 ∧ w.cell? ⟨b, off + i * 5 + 1, none⟩ = some c1 ∧ w.cell? ⟨b, off + i * 5 + 2, none⟩ = some c2 ∧ w.cell? ⟨b, off + i * 5 + 3, none⟩ = some c3 ∧ w.cell? ⟨b, off + i * 5 + 4, none⟩ = some c4 := by
  intro l
  induction l with
  | nil => intro a _ i p h; simp at h
  | cons x xs ih =>
    intro a h i p hp
    rw [RepNL] at h
    obtain ⟨b, off, c0, c1, c2, c3, c4, rfl, hf, hr, h0, h1, h2, h3, h4, hrest⟩ := h
    cases i with
    | zero =>
      simp at hp
      subst hp
      refine ⟨b, off, c0, c1, c2, c3, c4, rfl, hf, hr, ?_⟩
      rw [Nat.zero_mul, Nat.add_zero]
      exact ⟨h0, h1, h2, h3, h4⟩
    | succ j =>
      simp at hp
      obtain ⟨b', off', d0, d1, d2, d3, d4, he, r⟩ := ih hrest j p hp
      injection he with he
      injection he with e1 e2
      subst e1 e2
      refine ⟨b, off, d0, d1, d2, d3, d4, rfl, ?_⟩
      rw [show off + (j + 1) * 5 = off + 5 + j * 5 by omega]
      exact r
abbrev nodW (k o : Int) (s : ByteArray) (n : Int) (a : Option Addr) (m c : Nat) : Obj := .cells #[.int .i64 k, .int .i64 o, .string s, .int .i64 n, .slice a m c] 60 (0, 0)
/-- The cells of one function of a row. -/
theorem rowF_at {w : World} {F : Nat → Prop} : ∀ {ps : List PFn} {xs : List Value}, RowF w F ps xs → ∀ (i : Nat) (p : PFn), ps[i]? = some p →
    ∃ pa pc a cap, (∀ (r : Nat) u, (fnC p pa pc a cap)[r]? = some u → xs[i * 7 + r]? = some u) ∧ p.ps.length ≤ pc ∧ RepS w F p.ps pa ∧ p.bd.l.length ≤ cap ∧ RepNL w F p.bd.l a := by
  intro ps
  induction ps with
  | nil => intro xs _ i p h; simp at h
  | cons q ps ih =>
    intro xs hx i p hp
    obtain ⟨pa, pc, a, cap, rest, rfl, h1, h2, h3, h4, hr⟩ := hx
    cases i with
    | zero =>
      simp at hp
      subst hp
      refine ⟨pa, pc, a, cap, fun r u hu => ?_, h1, h2, h3, h4⟩
      rw [Nat.zero_mul, Nat.zero_add]
      rw [List.getElem?_append_left (List.getElem?_eq_some_iff.1 hu).1]
      exact hu
    | succ j =>
      simp at hp
      obtain ⟨pa', pc', a', cap', hc, r⟩ := ih hr j p hp
      refine ⟨pa', pc', a', cap', fun r u hu => ?_, r⟩
      rw [List.getElem?_append_right (by simp; omega)]
      rw [← hc r u hu]
      congr 1
      simp
      omega
theorem RepS.at {w : World} {F : Nat → Prop} {ps : List ByteArray} {a : Option Addr} (h : RepS w F ps a) (i : Nat) (s : ByteArray) (hs : ps[i]? = some s) : ∃ b off, a = some ⟨b, off, none⟩ ∧ F b ∧ w.cell? ⟨b, off + i, none⟩ = some (.string s) := by
  rcases h with rfl | ⟨b, off, rfl, hb, hc⟩
  · simp at hs
  · exact ⟨b, off, rfl, hb, hc i _ (by rw [List.getElem?_map, hs]; rfl)⟩
theorem RepS.inw {w w' : World} {l : List ByteArray} {a : Option Addr} (h : RepS w (InW w) l a) (k : Ext w w') : RepS w' (InW w') l a := RepS.to (fun b hb => ⟨Nat.lt_of_lt_of_le hb k.size, k.block b hb⟩) h
theorem RepFL.inw {w w' : World} {l : List PFn} {a : Option Addr} (h : RepFL w (InW w) l a) (k : Ext w w') : RepFL w' (InW w') l a := RepFL.to (fun b hb => ⟨Nat.lt_of_lt_of_le hb k.size, k.block b hb⟩) h
theorem RepFL.at {w : World} {F : Nat → Prop} {ps : List PFn} {a : Option Addr} (h : RepFL w F ps a) (i : Nat) (p : PFn) (hp : ps[i]? = some p) :
    ∃ b off pa pc qa qc, a = some ⟨b, off, none⟩ ∧ F b ∧ (∀ (r : Nat) u, (fnC p pa pc qa qc)[r]? = some u → w.cell? ⟨b, off + i * 7 + r, none⟩ = some u) ∧ p.ps.length ≤ pc ∧ RepS w F p.ps pa ∧ p.bd.l.length ≤ qc ∧ RepNL w F p.bd.l qa := by
  rcases h with rfl | ⟨b, off, xs, rfl, hb, hrow, hc⟩
  · simp at hp
  · obtain ⟨pa, pc, qa, qc, hcs, h1, hS, h3, hL⟩ := rowF_at hrow i p hp
    exact ⟨b, off, pa, pc, qa, qc, rfl, hb, fun r u hu => by rw [Nat.add_assoc]; exact hc _ _ (hcs r u hu), h1, hS, h3, hL⟩

end Go.Proofs.YtlgdjeiendmniaaGreatDoor

namespace Go.Proofs.YtlgdjeiendmniaaGreatDoor
open Go.RowKit

variable {g : Nat} {w w' w2 : World}

def fIx (P : PFn → Bool) : List PFn → Nat → Int
  | [], _ => -1
  | p :: r, i => if P p then (i : Int) else fIx P r (i + 1)
theorem fIx_drop (P : PFn → Bool) (l : List PFn) (j : Nat) (p : PFn) (h : l[j]? = some p) : fIx P (l.drop j) j = if P p then (j : Int) else fIx P (l.drop (j + 1)) (j + 1) := by
  have hlt := (List.getElem?_eq_some_iff.1 h).1
  rw [List.drop_eq_getElem_cons hlt, (List.getElem?_eq_some_iff.1 h).2, fIx]
def manyP (p : PFn) : Bool := decide (8 < p.ps.length)
def mnP (p : PFn) : Bool := decide (p.nm.data.toList = mainBs)
abbrev fnnV (p : PFn) (pa : Option Addr) (pc : Nat) (qa : Option Addr) (qc : Nat) : Value := funV p.nm pa p.ps.length pc p.bd.k p.bd.o p.bd.s p.bd.n qa p.bd.l.length qc

set_option maxHeartbeats 2000000 in
theorem many_m (p : PFn) (pa : Option Addr) (pc : Nat) (qa : Option Addr) (qc : Nat) : Calls Tryz.prog 31 #[fnnV p pa pc qa qc] w fun e w' => e = .returned (.bool (manyP p)) ∧ Ext w w' := by
  have hm : manyP p = decide ((8 : Int) < (p.ps.length : Int)) := by unfold manyP; simp; omega
  rw [hm]
  go_enter Tryz.func31, Tryz.ntmps31
  go_wp2_with fail
  go_ret
  exact ⟨rfl, Ext.alloc _ _⟩

set_option maxHeartbeats 2000000 in
theorem main_m (p : PFn) (pa : Option Addr) (pc : Nat) (qa : Option Addr) (qc : Nat) : Calls Tryz.prog 20 #[fnnV p pa pc qa qc] w fun e w' => e = .returned (.bool (mnP p)) ∧ Ext w w' := by
  have hm : (p.nm.toList == [109, 97, 105, 110]) = mnP p := by
    unfold mnP mainBs
    rw [ByteArray.toList_eq]
    by_cases h : p.nm.data.toList = [109, 97, 105, 110]
    · rw [h]; rfl
    · rw [decide_eq_false h, beq_eq_false_iff_ne]; exact h
  go_enter Tryz.func20, Tryz.ntmps20
  go_wp2_with fail
  go_ret

  exact ⟨rfl, Ext.alloc _ _⟩

set_option maxHeartbeats 4000000 in
theorem idxMany (fs : List PFn) (fa : Option Addr) (fc : Nat) (hl : fs.length ≤ 1000000) (hF : RepFL w (fun b => b < w.heap.size) fs fa) :
    Calls Tryz.prog 19 #[.slice fa fs.length fc, .func (.func 31) #[] #[]] w fun e w' => e = .returned (.int .i64 (fIx manyP fs 0)) ∧ Ext w w' := by
  have HF := hide hF
  clear hF
  go_enter Tryz.func19, Tryz.ntmps19
  go_wp2_with fail
  go_loopw [8] (fun t wr => ∃ (j : Nat), t = .int .i64 (j : Int) ∧ j ≤ fs.length ∧ Hd (Ext w wr) ∧ Hd (fIx manyP (fs.drop j) j = fIx manyP fs 0)) (fun t _ => fs.length - (intOf t).toNat)
  case atStart => exact ⟨0, rfl, by omega, Ext.refl _, by simp [Hd]⟩
  case round =>
    obtain ⟨j, rfl, hj, hX, hE⟩ := hrel
    by_cases hlt : j < fs.length
    · have hlt2 : (j : Int) < (fs.length : Int) := by omega
      obtain ⟨p, hp⟩ : ∃ p, fs[j]? = some p := ⟨_, List.getElem?_eq_getElem hlt⟩
      have hE2 := unhide hE
      rw [fIx_drop manyP fs j p hp] at hE2
      have HE2 := hide hE2
      obtain ⟨b, off, pa, pc, qa, qc, e1, hb, hc, _, _, _, _⟩ := (unhide HF).at j p hp
      subst e1
      have k0 := (unhide hX).cell (hc 0 _ rfl)
      have k1 := (unhide hX).cell (hc 1 _ rfl)
      have k2 := (unhide hX).cell (hc 2 _ rfl)
      have k3 := (unhide hX).cell (hc 3 _ rfl)
      have k4 := (unhide hX).cell (hc 4 _ rfl)
      have k5 := (unhide hX).cell (hc 5 _ rfl)
      have k6 := (unhide hX).cell (hc 6 _ rfl)
      rw [Nat.add_zero] at k0
      have HM := hide (many_m (w := wr) p pa pc qa qc)
      clear hE2 hE hp hc
      cases hq : manyP p with
      | true =>
        rw [hq] at HM
        have hE3 := unhide HE2
        rw [hq, if_pos rfl] at hE3
        have HE3 := hide hE3
        clear hE3 HE2 hq
        go_wp2_with (go_at_call 31; refine Calls.mono (unhide HM) ?_; rintro e w1 ⟨rfl, hx⟩; have X1 : Hd (Ext w w1) := (unhide hX).trans hx; clear hx)
        go_ret
        exact ⟨by rw [← unhide HE3]; rfl, unhide X1⟩
      | false =>
        rw [hq] at HM
        have hE3 := unhide HE2
        rw [hq, if_neg (by decide)] at hE3
        have HE3 := hide hE3
        clear hE3 HE2 hq
        go_wp2_with (go_at_call 31; refine Calls.mono (unhide HM) ?_; rintro e w1 ⟨rfl, hx⟩; have X1 : Hd (Ext w w1) := (unhide hX).trans hx; clear hx)
        go_roundw
        case rel => exact ⟨j + 1, by go_num, by omega, X1, HE3⟩
        case measure => simp [intOf]; omega
    · obtain rfl : fs.length = j := by omega
      have hE2 := unhide hE
      rw [List.drop_length, fIx] at hE2
      go_wp2_with fail
      go_ret
      exact ⟨by rw [← hE2]; rfl, unhide hX⟩

set_option maxHeartbeats 4000000 in
theorem idxMain (fs : List PFn) (fa : Option Addr) (fc : Nat) (hl : fs.length ≤ 1000000) (hF : RepFL w (fun b => b < w.heap.size) fs fa) :
    Calls Tryz.prog 19 #[.slice fa fs.length fc, .func (.func 20) #[] #[]] w fun e w' => e = .returned (.int .i64 (fIx mnP fs 0)) ∧ Ext w w' := by
  have HF := hide hF
  clear hF
  go_enter Tryz.func19, Tryz.ntmps19
  go_wp2_with fail
  go_loopw [8] (fun t wr => ∃ (j : Nat), t = .int .i64 (j : Int) ∧ j ≤ fs.length ∧ Hd (Ext w wr) ∧ Hd (fIx mnP (fs.drop j) j = fIx mnP fs 0)) (fun t _ => fs.length - (intOf t).toNat)
  case atStart => exact ⟨0, rfl, by omega, Ext.refl _, by simp [Hd]⟩
  case round =>
    obtain ⟨j, rfl, hj, hX, hE⟩ := hrel
    by_cases hlt : j < fs.length
    · have hlt2 : (j : Int) < (fs.length : Int) := by omega
      obtain ⟨p, hp⟩ : ∃ p, fs[j]? = some p := ⟨_, List.getElem?_eq_getElem hlt⟩
      have hE2 := unhide hE
      rw [fIx_drop mnP fs j p hp] at hE2
      have HE2 := hide hE2
      obtain ⟨b, off, pa, pc, qa, qc, e1, hb, hc, _, _, _, _⟩ := (unhide HF).at j p hp
      subst e1
      have k0 := (unhide hX).cell (hc 0 _ rfl)
      have k1 := (unhide hX).cell (hc 1 _ rfl)
      have k2 := (unhide hX).cell (hc 2 _ rfl)
      have k3 := (unhide hX).cell (hc 3 _ rfl)
      have k4 := (unhide hX).cell (hc 4 _ rfl)
      have k5 := (unhide hX).cell (hc 5 _ rfl)
      have k6 := (unhide hX).cell (hc 6 _ rfl)
      rw [Nat.add_zero] at k0
      have HM := hide (main_m (w := wr) p pa pc qa qc)
      clear hE2 hE hp hc
      cases hq : mnP p with
      | true =>
        rw [hq] at HM
        have hE3 := unhide HE2
        rw [hq, if_pos rfl] at hE3
        have HE3 := hide hE3
        clear hE3 HE2 hq
        go_wp2_with (go_at_call 20; refine Calls.mono (unhide HM) ?_; rintro e w1 ⟨rfl, hx⟩; have X1 : Hd (Ext w w1) := (unhide hX).trans hx; clear hx)
        go_ret
        exact ⟨by rw [← unhide HE3]; rfl, unhide X1⟩
      | false =>
        rw [hq] at HM
        have hE3 := unhide HE2
        rw [hq, if_neg (by decide)] at hE3
        have HE3 := hide hE3
        clear hE3 HE2 hq
        go_wp2_with (go_at_call 20; refine Calls.mono (unhide HM) ?_; rintro e w1 ⟨rfl, hx⟩; have X1 : Hd (Ext w w1) := (unhide hX).trans hx; clear hx)
        go_roundw
        case rel => exact ⟨j + 1, by go_num, by omega, X1, HE3⟩
        case measure => simp [intOf]; omega
    · obtain rfl : fs.length = j := by omega
      have hE2 := unhide hE
      rw [List.drop_length, fIx] at hE2
      go_wp2_with fail
      go_ret
      exact ⟨by rw [← hE2]; rfl, unhide hX⟩

end Go.Proofs.YtlgdjeiendmniaaGreatDoor
