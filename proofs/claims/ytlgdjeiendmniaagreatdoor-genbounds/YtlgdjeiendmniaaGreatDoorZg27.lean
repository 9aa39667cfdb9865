/- Errors, loops, names that are looked for. · A name is made visible. · A name gets the next local. · A block's end. -/
import Derived.Test.YtlgdjeiendmniaaGreatDoorZg26
set_option linter.unusedSimpArgs false
set_option linter.unusedVariables false
set_option maxRecDepth 10000

namespace Go.Proofs.YtlgdjeiendmniaaGreatDoor
open Go.RowKit Go.Maps

theorem WS.up {w : World} {B P M : Nat} {fv : Value} {col col' : Nat → Nat} {st : WK} {w0 : World} (h : WS w B P M fv col' st) (k : Wk col col' w0 w) : Walks B P M fv col w0 st (.returned (.tuple #[])) w := ⟨rfl, col', h, k⟩

set_option maxHeartbeats 1000000 in
theorem fail_w (B P M : Nat) (fv : Value) (col : Nat → Nat) (st : WK) (c : Int) (w : World) (h : WS w B P M fv col st) :
    Calls Tryz.prog 54 #[.pointer (some ⟨B, 0, none⟩), .int .i64 c] w (Walks B P M fv col w (st.fail c)) := by
  have hE := h.setE c
  have HE := hide hE
  have HS := hide h
  obtain ⟨lv, oa, ba, sa, ca, oc, bc, sc, cc, hB, hP, hm, h2, h3, h4, h5⟩ := h.ex
  have c8 := rowC hB 8 rfl
  have zf := rowF hB
  clear h hE hB hP hm h2 h3 h4 h5
  unfold WK.fail
  by_cases he : st.e = 0
  · rw [if_pos he]
    have he2 : (st.e == 0) = true := by simp [he]
    have c8 : w.cell? ⟨B, 8, none⟩ = some (.int .i64 st.e) := c8
    clear he
    go_enter Tryz.func54, Tryz.ntmps54
    go_wp2_with fail
    go_end0
    exact (unhide HE).1.up (unhide HE).2
  · rw [if_neg he]
    have he2 : (st.e == 0) = false := by simpa using he
    have c8 : w.cell? ⟨B, 8, none⟩ = some (.int .i64 st.e) := c8
    clear he
    go_enter Tryz.func54, Tryz.ntmps54
    go_wp2_with fail
    go_end0
    exact (unhide HS).up (Wk.refl _ _)

set_option maxHeartbeats 1000000 in
theorem leave_w (B P M : Nat) (fv : Value) (col : Nat → Nat) (st : WK) (w : World) (h : WS w B P M fv col st) :
    Calls Tryz.prog 122 #[.pointer (some ⟨B, 0, none⟩)] w (Walks B P M fv col w st.leave) := by
  have HF := hide (fail_w B P M fv col st 11 w h)
  have HS := hide h
  obtain ⟨lv, oa, ba, sa, ca, oc, bc, sc, cc, hB, hP, hm, h2, h3, h4, h5⟩ := h.ex
  have c4 : w.cell? ⟨B, 4, none⟩ = some (.int .i64 st.lp) := rowC hB 4 rfl
  clear h hB hP hm h2 h3 h4 h5
  unfold WK.leave
  by_cases he : st.lp = 0
  · rw [if_pos he]
    have he2 : (st.lp == 0) = true := by simp [he]
    clear he
    go_enter Tryz.func122, Tryz.ntmps122
    go_wp2_with (go_at_call 54; refine Calls.mono (unhide HF) ?_; rintro e w1 ⟨rfl, hw⟩; have X := hide hw; clear hw)
    go_end0
    obtain ⟨col', a, b⟩ := unhide X
    exact a.up b
  · rw [if_neg he]
    have he2 : (st.lp == 0) = false := by simpa using he
    clear he
    go_enter Tryz.func122, Tryz.ntmps122
    go_wp2_with fail
    go_end0
    exact (unhide HS).up (Wk.refl _ _)

theorem small_le {s : ByteArray} (h : small s = true) : s.size ≤ 1000000 := of_decide_eq_true h
theorem small_key {s : ByteArray} (h : small s = true) : keyOf Tryz.prog 9 (.string s) = some (kyS s) :=
  WideMaps.keyOf_string_mk Tryz.underlying9 (by have := small_le h; unfold maxLen; omega)

/-- A look-up in a map of names, with what it tells. -/
theorem look_run {w : World} {bm n : Nat} {lm : List (ByteArray × Int)} (h : MapIs w bm n lm) {s : ByteArray} (hs : small s = true) :
    ∃ c : Int, (Instr.lookup 106 (.map (some bm)) (.string s) true).run Tryz.prog w = .ok (.tuple #[.int .i64 c, .bool (lkp lm s).isSome]) w ∧ ∀ v, lkp lm s = some v → c = v := by
  obtain ⟨D, ho, hx⟩ := h
  obtain ⟨v, ps, hrun, hv⟩ := ho.look_ok keyS Tryz.underlying106 (zeroI w) (plainElem_int Tryz.underlying3 (by decide)) (small_key hs)
  obtain ⟨c, rfl, hc, hwc⟩ := plainElem_int_inv Tryz.underlying3 hv
  rw [(hx s).1] at hrun
  refine ⟨c, hrun, fun v h => ?_⟩
  have h1 := (hx s).2 v h
  have h2 := congrArg Prod.fst hc
  have h3 : (DataW.lit (Lit.int .i64 v) : DataW Unit) = .lit (.int .i64 c) := h1.symm.trans h2
  injection h3 with h3
  injection h3 with _ h3
  exact h3.symm
theorem look_at {w : World} {col : Nat → Nat} {lv : Option Nat} {lm : List (ByteArray × Int)} {ct : Nat} (h : MapAt w col lv lm ct) {s : ByteArray} (hs : small s = true) :
    ∃ c : Int, (Instr.lookup 106 (.map lv) (.string s) true).run Tryz.prog w = .ok (.tuple #[.int .i64 c, .bool (lkp lm s).isSome]) w ∧ ∀ v, lkp lm s = some v → c = v := by
  rcases h with ⟨rfl, rfl⟩ | ⟨bm, n, rfl, hc, hn, hm⟩
  · exact ⟨0, Maps.look_nil true keyS Tryz.underlying106 (zeroI w) (small_key hs), fun v h => by cases h⟩
  · exact look_run hm hs

set_option maxHeartbeats 1000000 in
theorem find_w (B P M : Nat) (fv : Value) (col : Nat → Nat) (st : WK) (s : ByteArray) (w : World) (h : WS w B P M fv col st) (hs : small s = true) :
    Calls Tryz.prog 151 #[.pointer (some ⟨B, 1, none⟩), .string s] w fun e w' => (∃ c : Int, e = .returned (.tuple #[.int .i64 c, .bool (lkp st.lm s).isSome]) ∧ ∀ v, lkp st.lm s = some v → c = v) ∧ w' = w := by
  obtain ⟨lv, oa, ba, sa, ca, oc, bc, sc, cc, hB, hP, hm, h2, h3, h4, h5⟩ := h.ex
  have c1 : w.cell? ⟨B, 1, none⟩ = some (.map lv) := rowC hB 1 rfl
  obtain ⟨c, hrun, hv⟩ := look_at hm hs
  have HV := hide hv
  clear h hB hP h2 h3 h4 h5 hm hv
  go_enter Tryz.func151, Tryz.ntmps151
  go_wp2_with fail
  exact bodyPost_ret (v := .tuple #[.int .i64 c, .bool (lkp st.lm s).isSome]) (by simp [results, Tryz.results151]) rfl ⟨⟨c, rfl, unhide HV⟩, rfl⟩

theorem infoIS : (Tryz.prog.info? 3).map (fun i => (i.zero, i.size, i.bytes)) = some (some (.int .i64 0), 1, 8) := by kernel_rfl
theorem one_intS (x : Int) : ∀ u ∈ ([.int .i64 x] : List Value), u.oneCell' = true := by
  intro u hu
  simp at hu
  subst hu
  rfl

set_option maxHeartbeats 1000000 in
theorem use_w (B P M : Nat) (fv : Value) (col : Nat → Nat) (st : WK) (s : ByteArray) (w : World) (h : WS w B P M fv col st) (hs : small s = true) (hb : st.sl.length ≤ 10000000) :
    Calls Tryz.prog 120 #[.pointer (some ⟨B, 0, none⟩), .string s] w (Walks B P M fv col w (st.use s)) := by
  have HN := hide (find_w B P M fv col st s w h hs)
  have HF := hide (fail_w B P M fv col st 11 w h)
  have HS := hide h
  unfold WK.use
  cases hl : lkp st.lm s with
  | none =>
    rw [hl] at HN
    simp only [Option.isSome_none] at HN
    clear h
    go_enter Tryz.func120, Tryz.ntmps120
    go_wp2_with (first
      | (go_at_call 151; refine Calls.mono (unhide HN) ?_; rintro e w1 ⟨⟨c, rfl, hv⟩, rfl⟩; clear hv)
      | (go_at_call 54; refine Calls.mono (unhide HF) ?_; rintro e w2 ⟨rfl, hw⟩; have X := hide hw; clear hw))
    go_end0
    obtain ⟨col', a, b⟩ := unhide X
    exact a.up b
  | some v =>
    rw [hl] at HN
    simp only [Option.isSome_some] at HN
    obtain ⟨lv, oa, ba, sa, ca, oc, bc, sc, cc, hB, hP, hm, h2, h3, h4, h5⟩ := h.ex
    have c6 : w.cell? ⟨B, 6, none⟩ = some (.slice sa st.sl.length sc) := rowC hB 6 rfl
    have zf := rowF hB
    have lB := (Array.getElem?_eq_some_iff.1 hB).1
    have HU := hide (fun (w6 : World) (ob : Obj) (g' cap' : Nat) => h.addSl (w6 := w6) hB hP hm h2 h3 h4 h5 ob (g' := g') (cap' := cap') (x := v))
    have e0 : (nms st.sl).length = st.sl.length := List.length_map _
    have ho : w.ownsRow 0 3 1 (.slice sa st.sl.length sc) st.sl.length (nms st.sl) := by have := h4.own; rw [e0] at this; exact this
    have HO := hide (fun ob => ho.alloc ob)
    have RB := hide hB
    have hown := h4.hue
    rw [e0] at hown
    have cB := h.cB
    have HW := hide hown
    obtain ⟨i0, hi, hz0, hz1, hz2⟩ := info_parts infoIS
    have HI := hide hi
    have Z0 := hide hz0
    have Z1 := hide hz1
    have Z2 := hide hz2
    clear hi hz0 hz1 hz2 h hB hP hm h2 h3 h4 h5 e0 hown ho HF
    go_enter Tryz.func120, Tryz.ntmps120
    go_wp2_with (first
      | (go_at_call 151; refine Calls.mono (unhide HN) ?_; rintro e w1 ⟨⟨c, rfl, hv⟩, rfl⟩; obtain rfl := hv v rfl; clear hv)
      | (at_builtin; refine wpList_append_where rfl (.tmp 23) (.tmp 25) 45 rfl 0 3 i0 (.int .i64 0) 1 8 Tryz.underlying45 (unhide HI) (unhide Z0) (unhide Z1) (unhide Z2) rfl (by decide) sa st.sl.length sc (nms st.sl) rfl (unhide HO _) ⟨w1.heap.size, 0, none⟩ 1 1 [.int .i64 c] rfl (by decide) rfl (cells_new w1 _ _) (one_intS _) ?c1 ?c2 (Nat.zero_le _) ?_))
    case c1 => unfold maxLen; omega
    case c2 => omega
    intro g' cap' w6 ho6 hg6 hw6
    have RZ := (hg6.block B (by simp; omega) (fun e => by have := unhide HW B e.symm; omega)).trans ((Ext.alloc _ _).row (unhide RB))
    have z6 := rowC RZ 6 rfl
    have zz := rowF RZ
    have HR := hide (unhide HU w6 _ g' cap' ho6 hg6 (by rw [size_alloc]; exact hw6))
    clear ho6 hg6 hw6 RZ
    go_wp2_with fail
    go_end0
    exact (unhide HR).1.up (unhide HR).2

theorem Wk.drewTo {col col' : Nat → Nat} {w w' : World} (h : Wk col col' w.drew w') : Wk col col' w w' := ⟨h.os, h.tape, h.output, h.size, h.same, h.keep⟩

set_option maxHeartbeats 1000000 in
theorem step_w (B P M : Nat) (fv : Value) (col : Nat → Nat) (st : WK) (s : ByteArray) (nb no : Nat) (w : World) (h : WS w B P M fv col st) (hs : small s = true) (hn : w.cell? ⟨nb, no + 2, none⟩ = some (.string s)) :
    Calls Tryz.prog 119 #[.pointer (some ⟨B, 0, none⟩), .pointer (some ⟨nb, no, none⟩)] w (Walks B P M fv col w (st.step s.size)) := by
  have hsz := small_le hs
  unfold WK.step
  obtain ⟨N, hN⟩ : ∃ N, N = wrap64 (st.sp + (1 + (s.size : Int) / 4000)) := ⟨_, rfl⟩
  have HU := hide (h.setSp N)
  obtain ⟨lv, oa, ba, sa, ca, oc, bc, sc, cc, hB, hP, hm, h2, h3, h4, h5⟩ := h.ex
  have c0 : w.cell? ⟨B, 0, none⟩ = some (.pointer (some ⟨P, 0, none⟩)) := rowC hB 0 rfl
  have p2 : w.cell? ⟨P, 2, none⟩ = some (.int .i64 st.sp) := rowC hP 2 rfl
  have zf := rowF hP
  have HN := hide hN
  rw [← hN]
  clear h hB hP hm h2 h3 h4 h5 hs hN
  go_enter Tryz.func119, Tryz.ntmps119
  go_wp2_with fail
  refine wp_nrm ?_
  first | skip; go_region | fail
  all_goals
    simp only [Nrm]
    rw [← unhide HN]
    refine gen_world (F := fun W => Exit.then _ _ Exit.normal _ W) ?_
    intro W hW
    have HW : Hd (WS W B P M fv col { st with sp := N } ∧ Wk col col w W) := by
      rw [hW]
      exact ⟨(unhide HU).1.ext (Ext.drew (Ext.refl _)), (unhide HU).2.trans (Wk.ext (Ext.drew (Ext.refl _)))⟩
    have q2 : W.cell? ⟨P, 2, none⟩ = some (.int .i64 N) := by
      obtain ⟨_, _, _, _, _, _, _, _, _, _, hP, _⟩ := (unhide HW).1.ex
      exact rowC hP 2 rfl
    clear hW p2 HU c0
    have HF := hide (fail_w B P M fv col { st with sp := N } 65 W (unhide HW).1)
    by_cases hgt : 4194304 < N
    · have E := hide (show st.stepTo N = WK.fail { st with sp := N } 65 by unfold WK.stepTo; rw [if_pos hgt])
      go_wp2_with (go_at_call 54; refine Calls.mono (unhide HF) ?_; rintro e w1 ⟨rfl, hw⟩; have X := hide hw; clear hw)
      go_end0
      obtain ⟨col', a, b⟩ := unhide X
      rw [unhide E]
      exact a.up ((unhide HW).2.trans b)
    · have E := hide (show st.stepTo N = { st with sp := N } by unfold WK.stepTo; rw [if_neg hgt])
      go_wp2_with fail
      go_end0
      rw [unhide E]
      exact (unhide HW).1.up (unhide HW).2

set_option maxHeartbeats 1000000 in
theorem open_w (B P M : Nat) (fv : Value) (col : Nat → Nat) (st : WK) (w : World) (h : WS w B P M fv col st) (hb : st.bk.length ≤ 10000000) :
    Calls Tryz.prog 121 #[.pointer (some ⟨B, 1, none⟩)] w (Walks B P M fv col w st.opn) := by
  unfold WK.opn
  have hd : WS w.drew B P M fv col st := h.ext (Ext.drew (Ext.refl _))
  obtain ⟨lv, oa, ba, sa, ca, oc, bc, sc, cc, hB, hP, hm, h2, h3, h4, h5⟩ := hd.ex
  have c2 : w.cell? ⟨B, 2, none⟩ = some (.slice oa st.od.length oc) := rowC hB 2 rfl
  have c3 : w.cell? ⟨B, 3, none⟩ = some (.slice ba st.bk.length bc) := rowC hB 3 rfl
  have lB : B < w.heap.size := (Array.getElem?_eq_some_iff.1 hB).1
  have HU := hide (fun (w6 : World) (ob : Obj) (g' cap' : Nat) => hd.addBk (w6 := w6) hB hP hm h2 h3 h4 h5 ob (g' := g') (cap' := cap') (x := (st.od.length : Int)))
  have e0 : (nms st.bk).length = st.bk.length := List.length_map _
  have ho : w.drew.ownsRow 0 3 1 (.slice ba st.bk.length bc) st.bk.length (nms st.bk) := by have := h3.own; rw [e0] at this; exact this
  have HO := hide (fun ob => ho.alloc ob)
  have RB := hide hB
  have hown := h3.hue
  rw [e0] at hown
  have cB := h.cB
  have HW := hide hown
  obtain ⟨i0, hi, hz0, hz1, hz2⟩ := info_parts infoIS
  have HI := hide hi
  have Z0 := hide hz0
  have Z1 := hide hz1
  have Z2 := hide hz2
  clear hi hz0 hz1 hz2 h hd hB hP hm h2 h3 h4 h5 e0 hown ho
  go_enter Tryz.func121, Tryz.ntmps121
  go_wp2_with fail
  refine wp_nrm ?_
  first | skip; go_region_law (refine step_append_where rfl (.tmp 6) (.tmp 12) 45 rfl 0 3 i0 (.int .i64 0) 1 8 Tryz.underlying45 (unhide HI) (unhide Z0) (unhide Z1) (unhide Z2) rfl (by decide) ba st.bk.length bc (nms st.bk) (by simp [Act.eval, Act.put]) (unhide HO _) ⟨w.drew.heap.size, 0, none⟩ 1 1 [.int .i64 (st.od.length : Int)] (by simp [Act.eval, Act.put]) (by decide) rfl (cells_new w.drew _ _) (one_intS _) (by unfold maxLen; omega) (by omega) (Nat.zero_le _) ?_; intro g2 cap6 w6 ho6 hg6 hw6; have RZ := (hg6.block B (by simp; omega) (fun e => by have := unhide HW B e.symm; omega)).trans ((Ext.alloc _ _).row (unhide RB)); have z3 := rowC RZ 3 rfl; have zz := rowF RZ; have HR := hide (unhide HU w6 _ g2 cap6 ho6 hg6 hw6); clear ho6 hg6 hw6 RZ) | fail
  all_goals
    simp only [Nrm]
    go_wp2_with fail
    go_end0
    exact (unhide HR).1.up (unhide HR).2.drewTo

end Go.Proofs.YtlgdjeiendmniaaGreatDoor

namespace Go.Proofs.YtlgdjeiendmniaaGreatDoor
open Go.RowKit Go.Maps

/-- A map of names is made. -/
theorem WS.mkMap {w W : World} {B P M : Nat} {fv : Value} {col : Nat → Nat} {st : WK} (h : WS w B P M fv col st) {oa ba sa ca : Option Addr} {oc bc sc cc : Nat} (hB : w.heap[B]? = some (wkO P none oa st.od.length oc ba st.bk.length bc st.lp st.lc sa st.sl.length sc ca st.cl.length cc st.e)) (hP : w.heap[P]? = some (pgO fv M st.sp)) (hlm : st.lm = [])
    (h2 : RowAt w col 2 9 oa oc (strs st.od)) (h3 : RowAt w col 3 3 ba bc (nms st.bk)) (h4 : RowAt w col 4 3 sa sc (nms st.sl)) (h5 : RowAt w col 5 3 ca cc (nms st.cl)) (hz : W.heap.size = w.heap.size + 1) (hWB : W.heap[B]? = some (wkO P (some w.heap.size) oa st.od.length oc ba st.bk.length bc st.lp st.lc sa st.sl.length sc ca st.cl.length cc st.e)) (hWm : W.heap[w.heap.size]? = some (.map #[] 0)) (hk : ∀ k, k < w.heap.size → k ≠ B → W.heap[k]? = w.heap[k]?) (xo : W.os = w.os) (xt : W.tape = w.tape) (xu : W.output = w.output) :
    WS W B P M fv (hued col w.heap.size 1) st ∧ Wk col (hued col w.heap.size 1) w W := by
  have lB := (Array.getElem?_eq_some_iff.1 hB).1
  have lP := (Array.getElem?_eq_some_iff.1 hP).1
  have cB := h.cB
  have cP := h.cP
  have r1 : ∀ k, k < w.heap.size → hued col w.heap.size 1 k = col k := fun k h1 => by unfold hued; rw [if_neg (by omega)]
  have kr : ∀ i, i ≠ 6 → ∀ k, k < w.heap.size → col k = i → W.heap[k]? = w.heap[k]? := fun i hi k h1 hc => hk k h1 (fun e => by rw [e, cB] at hc; omega)
  refine ⟨⟨fun k h1 => by unfold hued; rw [if_neg (by omega)]; exact h.fresh k (by omega), (r1 B lB).trans cB, (r1 P lP).trans cP, some w.heap.size, oa, ba, sa, ca, oc, bc, sc, cc, hWB, (kr 7 (by decide) P lP cP).trans hP, ?_, h2.keep (kr 2 (by decide)) r1, h3.keep (kr 3 (by decide)) r1, h4.keep (kr 4 (by decide)) r1, h5.keep (kr 5 (by decide)) r1⟩, ⟨xo, xt, xu, by omega, r1, fun k h1 h0 => kr 0 (by decide) k h1 h0⟩⟩
  exact Or.inr ⟨w.heap.size, 0, rfl, by unfold hued; rw [if_pos rfl], Nat.zero_le _, by rw [hlm]; exact (MapIs.made w).keep (hWm.trans (Go.heap_alloc_new w _).symm)⟩

/-- The map has turned. -/
theorem WS.turnMap {w W : World} {B P M : Nat} {fv : Value} {col : Nat → Nat} {st : WK} (h : WS w B P M fv col st) {bm : Nat} {oa ba sa ca : Option Addr} {oc bc sc cc : Nat} (hB : w.heap[B]? = some (wkO P (some bm) oa st.od.length oc ba st.bk.length bc st.lp st.lc sa st.sl.length sc ca st.cl.length cc st.e)) (hP : w.heap[P]? = some (pgO fv M st.sp)) (hc : col bm = 1)
    (h2 : RowAt w col 2 9 oa oc (strs st.od)) (h3 : RowAt w col 3 3 ba bc (nms st.bk)) (h4 : RowAt w col 4 3 sa sc (nms st.sl)) (h5 : RowAt w col 5 3 ca cc (nms st.cl)) (hg : w.grownBy W (some bm)) (lm : List (ByteArray × Int)) (n ct : Nat) (hn : n ≤ ct) (hm : MapIs W bm n lm) :
    WS W B P M fv col { st with lm := lm, ct := ct } ∧ Wk col col w W := by
  have lB := (Array.getElem?_eq_some_iff.1 hB).1
  have lP := (Array.getElem?_eq_some_iff.1 hP).1
  have cB := h.cB
  have cP := h.cP
  have kr : ∀ i, i ≠ 1 → ∀ k, k < w.heap.size → col k = i → W.heap[k]? = w.heap[k]? := fun i hi k h1 hck => hg.block k h1 (fun e => by injection e with e; rw [e, hc] at hck; omega)
  exact ⟨⟨fun k h1 => h.fresh k (Nat.le_trans hg.size h1), cB, cP, some bm, oa, ba, sa, ca, oc, bc, sc, cc, (kr 6 (by decide) B lB cB).trans hB, (kr 7 (by decide) P lP cP).trans hP, Or.inr ⟨bm, n, rfl, hc, hn, hm⟩, h2.keep (kr 2 (by decide)) (fun _ _ => rfl), h3.keep (kr 3 (by decide)) (fun _ _ => rfl), h4.keep (kr 4 (by decide)) (fun _ _ => rfl), h5.keep (kr 5 (by decide)) (fun _ _ => rfl)⟩, ⟨hg.os, hg.tape, hg.output, hg.size, fun _ _ => rfl, fun k h1 h0 => kr 0 (by decide) k h1 h0⟩⟩

theorem WS.mkPut {w w2 : World} {B P M : Nat} {fv : Value} {col : Nat → Nat} {st : WK} (h : WS w B P M fv col st) {oa ba sa ca : Option Addr} {oc bc sc cc : Nat} (hB : w.heap[B]? = some (wkO P none oa st.od.length oc ba st.bk.length bc st.lp st.lc sa st.sl.length sc ca st.cl.length cc st.e)) (hP : w.heap[P]? = some (pgO fv M st.sp)) (hlm : st.lm = [])
    (h2 : RowAt w col 2 9 oa oc (strs st.od)) (h3 : RowAt w col 3 3 ba bc (nms st.bk)) (h4 : RowAt w col 4 3 sa sc (nms st.sl)) (h5 : RowAt w col 5 3 ca cc (nms st.cl)) (hg : ((w.setCell ⟨B, 1, none⟩ (.map (some w.heap.size))).alloc (.map #[] 0)).grownBy w2 (some w.heap.size)) {s : ByteArray} {v : Int} (hm : MapIs w2 w.heap.size 1 [(s, v)]) :
    WS w2 B P M fv (hued col w.heap.size 1) { st with lm := (s, v) :: st.lm, ct := st.ct + 1 } ∧ Wk col (hued col w.heap.size 1) w w2 := by
  have lB := (Array.getElem?_eq_some_iff.1 hB).1
  have lP := (Array.getElem?_eq_some_iff.1 hP).1
  have cB := h.cB
  have cP := h.cP
  have hzs : (w.setCell ⟨B, 1, none⟩ (.map (some w.heap.size))).heap.size = w.heap.size := by simp [World.setCell]
  have hz : ((w.setCell ⟨B, 1, none⟩ (.map (some w.heap.size))).alloc (.map #[] 0)).heap.size = w.heap.size + 1 := by rw [size_alloc, hzs]
  have hWB : ((w.setCell ⟨B, 1, none⟩ (.map (some w.heap.size))).alloc (.map #[] 0)).heap[B]? = some (wkO P (some w.heap.size) oa st.od.length oc ba st.bk.length bc st.lp st.lc sa st.sl.length sc ca st.cl.length cc st.e) := by
    have hr := (Ext.alloc _ (.map #[] 0)).row (row_set hB 1 (.map (some w.heap.size)))
    simpa only [List.setIfInBounds_toArray, List.set_cons_zero, List.set_cons_succ] using hr
  have hWm : ((w.setCell ⟨B, 1, none⟩ (.map (some w.heap.size))).alloc (.map #[] 0)).heap[w.heap.size]? = some (.map #[] 0) := by
    have := Go.heap_alloc_new (w.setCell ⟨B, 1, none⟩ (.map (some w.heap.size))) (.map #[] 0)
    rw [hzs] at this
    exact this
  have hk : ∀ k, k < w.heap.size → k ≠ B → ((w.setCell ⟨B, 1, none⟩ (.map (some w.heap.size))).alloc (.map #[] 0)).heap[k]? = w.heap[k]? := fun k h1 h2 => ((Ext.alloc _ _).block k (by rw [hzs]; exact h1)).trans (Below.heap_setCell _ _ _ _ h2)
  have hX := h.mkMap (W := ((w.setCell ⟨B, 1, none⟩ (.map (some w.heap.size))).alloc (.map #[] 0))) hB hP hlm h2 h3 h4 h5 hz hWB hWm hk rfl rfl rfl
  have r1 : ∀ k, k < w.heap.size → hued col w.heap.size 1 k = col k := hX.2.same
  have kr : ∀ i, i ≠ 6 → ∀ k, k < w.heap.size → col k = i → ((w.setCell ⟨B, 1, none⟩ (.map (some w.heap.size))).alloc (.map #[] 0)).heap[k]? = w.heap[k]? := fun i hi k h1 hc => hk k h1 (fun e => by rw [e, cB] at hc; omega)
  have ht := hX.1.turnMap hWB ((kr 7 (by decide) P lP cP).trans hP) (by unfold hued; rw [if_pos rfl]) (h2.keep (kr 2 (by decide)) r1) (h3.keep (kr 3 (by decide)) r1) (h4.keep (kr 4 (by decide)) r1) (h5.keep (kr 5 (by decide)) r1) hg [(s, v)] 1 (st.ct + 1) (by omega) hm
  rw [hlm]
  exact ⟨ht.1, hX.2.trans ht.2⟩

theorem ownsMap_at {X : World} {bm : Nat} (h : X.heap[bm]? = some (.map #[] 0)) : X.ownsMap (H := Unit) Tryz.prog 9 (plainElem Tryz.prog 3) bm 0 (.map []) := by
  have hb : bm < X.heap.size := (Array.getElem?_eq_some_iff.1 h).1
  obtain ⟨es, clock, he, r⟩ := World.ownsMap_made (H := Unit) X Tryz.prog 9 (plainElem Tryz.prog 3)
  have h2 := Go.heap_alloc_new X (.map #[] 0)
  rw [he] at h2
  exact ⟨es, clock, h.trans h2.symm, r⟩

theorem eq_nil (w : World) : (binOp BinOp.eql 106 (.map none) (.map none)).run Tryz.prog w = .ok (.bool true) w := by kernel_rfl
theorem eq_some (bm : Nat) (w : World) : (binOp BinOp.eql 106 (.map (some bm)) (.map none)).run Tryz.prog w = .ok (.bool false) w := by kernel_rfl

set_option maxHeartbeats 1000000 in
theorem add_w (B P M : Nat) (fv : Value) (col : Nat → Nat) (st : WK) (s : ByteArray) (v : Int) (w : World) (h : WS w B P M fv col st) (hs : small s = true) (hv : (Lit.int .i64 v).wf = true) (hct : st.ct ≤ 10000000) (hod : st.od.length ≤ 10000000) :
    Calls Tryz.prog 118 #[.pointer (some ⟨B, 1, none⟩), .string s, .int .i64 v] w fun e w' => e = .returned (.bool (!(lkp st.lm s).isSome)) ∧ ∃ col', WS w' B P M fv col' (if (lkp st.lm s).isSome then st else st.put s v) ∧ Wk col col' w w' := by
  obtain ⟨lv, oa, ba, sa, ca, oc, bc, sc, cc, hB, hP, hm, h2, h3, h4, h5⟩ := id h.ex
  have c1 : w.cell? ⟨B, 1, none⟩ = some (.map lv) := rowC hB 1 rfl
  have zf := rowF hB
  obtain ⟨c, hrun, -⟩ := look_at hm hs
  cases hl : (lkp st.lm s).isSome
  · rw [hl] at hrun
    have HK := hide (small_key hs)
    have HV := hide hv
    have lB := (Array.getElem?_eq_some_iff.1 hB).1
    obtain ⟨i0, hi, hz0, hz1, hz2⟩ := info_parts infoS
    have HI := hide hi
    have Z0 := hide hz0
    have Z1 := hide hz1
    have Z2 := hide hz2
    clear hi hz0 hz1 hz2 hv
    rcases hm with ⟨rfl, hm⟩ | ⟨bm, n, rfl, hc, hn, hm⟩
    · have HM := hide (fun (w2 : World) hg => h.mkPut (w2 := w2) hB hP hm h2 h3 h4 h5 hg (s := s) (v := v))
      have HX0 : Hd (((w.setCell ⟨B, 1, none⟩ (.map (some w.heap.size))).alloc (.map #[] 0)).heap[w.heap.size]? = some (.map #[] 0)) := by
        have hzs : (w.setCell ⟨B, 1, none⟩ (.map (some w.heap.size))).heap.size = w.heap.size := by simp [World.setCell]
        have := Go.heap_alloc_new (w.setCell ⟨B, 1, none⟩ (.map (some w.heap.size))) (.map #[] 0)
        rw [hzs] at this
        exact this
      have hmm := @run_makeMap Tryz.prog
      have heq := eq_nil
      have HB := hide hB
      clear h hB hP hm h2 h3 h4 h5
      go_enter Tryz.func118, Tryz.ntmps118
      go_wp2_with (first
        | (at_mapUpdate; refine wpList_mapUpdate_own _ rfl _ _ _ 106 rfl 9 3 keyS Tryz.underlying106 _ w.heap.size 0 _ rfl (ownsMap_at (unhide HX0)) (by unfold maxLen; omega) _ _ _ rfl rfl (unhide HK) _ [] (plainElem_int Tryz.underlying3 (unhide HV)) ?_; intro w2 ho2 hg2; have hW2 := unhide HM w2 hg2 (MapIs.put (lm := []) ⟨[], rfl⟩ (fun s => ⟨rfl, fun v h => by cases h⟩) ho2); obtain ⟨lv2, oa2, ba2, sa2, ca2, oc2, bc2, sc2, cc2, kB, kP, km, k2, k3, k4, k5⟩ := id hW2.1.ex; have c2 : w2.cell? ⟨B, 2, none⟩ = some (.slice oa2 st.od.length oc2) := rowC kB 2 rfl; have HU := hide (fun (w6 : World) (ob : Obj) (g' cap' : Nat) => hW2.1.addOd (w6 := w6) kB kP km k2 k3 k4 k5 ob (g' := g') (cap' := cap') (x := s)); have e0 : (strs st.od).length = st.od.length := List.length_map _; have ho : w2.ownsRow 0 9 1 (.slice oa2 st.od.length oc2) st.od.length (strs st.od) := (by have h0 := k2.own; rw [e0] at h0; exact h0); have HO := hide (fun ob => ho.alloc ob); have RB := hide kB; have hown := k2.hue; rw [e0] at hown; have HW := hide hown; have CB := hide hW2.1.cB; have WK2 := hide hW2.2; have l2 : B < w2.heap.size := (Array.getElem?_eq_some_iff.1 kB).1; clear hW2 kB kP km k2 k3 k4 k5 ho hown e0 ho2 hg2)
        | (at_builtin; refine wpList_append_where rfl (.tmp 38) (.tmp 40) 57 rfl 0 9 i0 (.string emptyB) 1 16 Tryz.underlying57 (unhide HI) (unhide Z0) (unhide Z1) (unhide Z2) rfl (by decide) oa2 st.od.length oc2 (strs st.od) rfl (unhide HO _) ⟨w2.heap.size, 0, none⟩ 1 1 [.string s] rfl (by decide) rfl (cells_new w2 _ _) (one_str _) ?c1 ?c2 (Nat.zero_le _) ?_))
      case c1 => unfold maxLen; omega
      case c2 => omega
      intro g' cap' w6 ho6 hg6 hw6
      have RZ := (hg6.block B (by simp; omega) (fun e => by have h1 := unhide HW B e.symm; have h2 := unhide CB; omega)).trans ((Ext.alloc _ _).row (unhide RB))
      have z2 := rowC RZ 2 rfl
      have zz := rowF RZ
      have HR := hide (unhide HU w6 _ g' cap' ho6 hg6 (by rw [size_alloc]; exact hw6))
      clear ho6 hg6 hw6 RZ
      go_wp2_with fail
      go_ret
      exact ⟨rfl, _, (unhide HR).1, (unhide WK2).trans (unhide HR).2⟩
    · obtain ⟨D, hD, hx⟩ := hm
      have HD := hide hD
      have HM := hide (fun (w2 : World) (hg : w.grownBy w2 (some bm)) (ho : w2.ownsMap Tryz.prog 9 (plainElem Tryz.prog 3) bm (n + 1) (D.put (kyS s) (.lit (.int .i64 v)))) => h.turnMap hB hP hc h2 h3 h4 h5 hg ((s, v) :: st.lm) (n + 1) (st.ct + 1) (by omega) (MapIs.put hD.isMap hx ho))
      have heq := eq_some bm
      clear h hB hP h2 h3 h4 h5 hx hD hc
      go_enter Tryz.func118, Tryz.ntmps118
      go_wp2_with (first
        | (at_mapUpdate; refine wpList_mapUpdate_own _ rfl _ _ _ 106 rfl 9 3 keyS Tryz.underlying106 _ bm n _ rfl (unhide HD) (by unfold maxLen; omega) _ _ _ rfl rfl (unhide HK) _ [] (plainElem_int Tryz.underlying3 (unhide HV)) ?_; intro w2 ho2 hg2; have hW2 := unhide HM w2 hg2 ho2; obtain ⟨lv2, oa2, ba2, sa2, ca2, oc2, bc2, sc2, cc2, kB, kP, km, k2, k3, k4, k5⟩ := id hW2.1.ex; have c2 : w2.cell? ⟨B, 2, none⟩ = some (.slice oa2 st.od.length oc2) := rowC kB 2 rfl; have HU := hide (fun (w6 : World) (ob : Obj) (g' cap' : Nat) => hW2.1.addOd (w6 := w6) kB kP km k2 k3 k4 k5 ob (g' := g') (cap' := cap') (x := s)); have e0 : (strs st.od).length = st.od.length := List.length_map _; have ho : w2.ownsRow 0 9 1 (.slice oa2 st.od.length oc2) st.od.length (strs st.od) := (by have h0 := k2.own; rw [e0] at h0; exact h0); have HO := hide (fun ob => ho.alloc ob); have RB := hide kB; have hown := k2.hue; rw [e0] at hown; have HW := hide hown; have CB := hide hW2.1.cB; have WK2 := hide hW2.2; have l2 : B < w2.heap.size := (Array.getElem?_eq_some_iff.1 kB).1; clear hW2 kB kP km k2 k3 k4 k5 ho hown e0 ho2 hg2)
        | (at_builtin; refine wpList_append_where rfl (.tmp 38) (.tmp 40) 57 rfl 0 9 i0 (.string emptyB) 1 16 Tryz.underlying57 (unhide HI) (unhide Z0) (unhide Z1) (unhide Z2) rfl (by decide) oa2 st.od.length oc2 (strs st.od) rfl (unhide HO _) ⟨w2.heap.size, 0, none⟩ 1 1 [.string s] rfl (by decide) rfl (cells_new w2 _ _) (one_str _) ?c1 ?c2 (Nat.zero_le _) ?_))
      case c1 => unfold maxLen; omega
      case c2 => omega
      intro g' cap' w6 ho6 hg6 hw6
      have RZ := (hg6.block B (by simp; omega) (fun e => by have h1 := unhide HW B e.symm; have h2 := unhide CB; omega)).trans ((Ext.alloc _ _).row (unhide RB))
      have z2 := rowC RZ 2 rfl
      have zz := rowF RZ
      have HR := hide (unhide HU w6 _ g' cap' ho6 hg6 (by rw [size_alloc]; exact hw6))
      clear ho6 hg6 hw6 RZ
      go_wp2_with fail
      go_ret
      exact ⟨rfl, _, (unhide HR).1, (unhide WK2).trans (unhide HR).2⟩
  · rw [hl] at hrun
    have HS := hide h
    clear h hB hP hm h2 h3 h4 h5
    go_enter Tryz.func118, Tryz.ntmps118
    go_wp2_with fail
    go_ret
    exact ⟨rfl, col, unhide HS, Wk.refl _ _⟩

end Go.Proofs.YtlgdjeiendmniaaGreatDoor

namespace Go.Proofs.YtlgdjeiendmniaaGreatDoor
open Go.RowKit Go.Maps

theorem step_call_three {P : Program} {w : World} {ops : Array Oper} {o : Oper} {a : Act} {K : Act → World → Prop} {Q : Exit → Act → World → Prop} {E : Prop}
    (hg : o.guard = none) (f : FuncId) (x y z : Operand) (t u s : TypeId) (hop : o.op = Op.call { callee := Callee.value (.func f), args := #[x, y, z], argTypes := #[t, u, s] })
    (v v' v2 : Value) (hx : a.eval x = v) (hy : a.eval y = v') (hz : a.eval z = v2) (hf : (callFunc f #[v, v', v2]).run P w = .ok (.enter f #[v, v', v2]) w) (hK : Calls P f #[v, v', v2] w fun e w' => ∃ r, e = .returned r ∧ K (a.put o.dst r) w') :
    if Region.wanted o (yielded ops a.tmps) = true then Oper.wp P o a w K Q else E := by
  have hw : Region.wanted o (yielded ops a.tmps) = true := by simp [Region.wanted, hg]
  rw [if_pos hw]
  have he : a.eval (.func f) = .func (.func f) #[] #[] := rfl
  unfold Oper.wp
  have hrun : (execOp a.eval o).run P w = .ok (.enter f #[v, v', v2]) w := by
    simp [execOp, hop, resolve, invoke, hx, hy, hz, he, Result.andThen, Deferred.ofValue, hf]
  rw [hrun, Oper.upon_enter]
  refine hK.mono ?_
  rintro e w' ⟨r, rfl, h⟩
  exact h

theorem enterAdd (v u x : Value) (w : World) : (callFunc 118 #[v, u, x]).run Tryz.prog w = .ok (.enter 118 #[v, u, x]) w := by kernel_rfl

/-- The cell of the next local is set. -/
theorem WS.upLc {w w0 : World} {B P M : Nat} {fv : Value} {col col' : Nat → Nat} {st : WK} (h : WS w B P M fv col' st) (k : Wk col col' w0 w) : Walks B P M fv col w0 st.up (.returned (.tuple #[])) (w.setCell ⟨B, 5, none⟩ (.int .i64 (wrap64 (st.lc + 1)))) :=
  (h.setLc (wrap64 (st.lc + 1))).1.up (k.trans (h.setLc (wrap64 (st.lc + 1))).2)

theorem WS.c5 {w : World} {B P M : Nat} {fv : Value} {col : Nat → Nat} {st : WK} (h : WS w B P M fv col st) : w.cell? ⟨B, 5, none⟩ = some (.int .i64 st.lc) ∧ ∀ i, w.frozen? ⟨B, i, none⟩ = false := by
  obtain ⟨lv, oa, ba, sa, ca, oc, bc, sc, cc, hB, hP, hm, h2, h3, h4, h5⟩ := h.ex
  exact ⟨rowC hB 5 rfl, rowF hB⟩

theorem lc_fail (st : WK) (c : Int) : (st.fail c).lc = st.lc := by unfold WK.fail; split <;> rfl

set_option maxHeartbeats 1000000 in
theorem declare_w (B P M : Nat) (fv : Value) (col : Nat → Nat) (st : WK) (s : ByteArray) (w : World) (h : WS w B P M fv col st) (hs : small s = true) (hv : (Lit.int .i64 st.lc).wf = true) (hct : st.ct ≤ 10000000) (hod : st.od.length ≤ 10000000) :
    Calls Tryz.prog 82 #[.pointer (some ⟨B, 0, none⟩), .string s] w (Walks B P M fv col w (st.declare s)) := by
  have hd : WS w.drew B P M fv col st := h.ext (Ext.drew (Ext.refl _))
  have HA := hide (add_w B P M fv col st s st.lc w.drew hd hs hv hct hod)
  have c5 := h.c5.1
  unfold WK.declare
  cases hl : (lkp st.lm s).isSome
  · rw [hl] at HA
    simp only [Bool.false_eq_true, if_false] at HA ⊢
    clear h hd hv
    go_enter Tryz.func82, Tryz.ntmps82
    go_wp2_with fail
    refine wp_nrm ?_
    first | skip; go_region_law (refine step_call_three rfl 118 (.tmp 6) (.tmp 7) (.tmp 12) 113 9 3 rfl _ _ _ (by simp [Act.eval, Act.put]) (by simp [Act.eval, Act.put]) (by simp [Act.eval, Act.put]) (enterAdd _ _ _ _) (Calls.mono (unhide HA) ?_); rintro e w1 ⟨rfl, hw⟩; have X := hide hw; clear hw; refine ⟨_, rfl, ?_⟩) | fail
    all_goals
      simp only [Nrm]
      obtain ⟨col', a, b⟩ := unhide X
      have q5 := a.c5.1
      have qz := a.c5.2
      have A := hide a
      have Bw := hide b
      clear a b X c5
      have q5 : w1.cell? ⟨B, 5, none⟩ = some (.int .i64 st.lc) := q5
      go_wp2_with fail
      go_end0
      exact (unhide A).upLc (unhide Bw).drewTo
  · rw [hl] at HA
    simp only [if_true] at HA ⊢
    clear h hd hv
    go_enter Tryz.func82, Tryz.ntmps82
    go_wp2_with fail
    refine wp_nrm ?_
    first | skip; go_region_law (refine step_call_three rfl 118 (.tmp 6) (.tmp 7) (.tmp 12) 113 9 3 rfl _ _ _ (by simp [Act.eval, Act.put]) (by simp [Act.eval, Act.put]) (by simp [Act.eval, Act.put]) (enterAdd _ _ _ _) (Calls.mono (unhide HA) ?_); rintro e w1 ⟨rfl, hw⟩; have X := hide hw; clear hw; refine ⟨_, rfl, ?_⟩) | fail
    all_goals
      simp only [Nrm]
      obtain ⟨col', a, b⟩ := unhide X
      have HF := hide (fail_w B P M fv col' st 11 w1 a)
      have Bw := hide b
      clear a b X c5
      go_wp2_with (go_at_call 54; refine Calls.mono (unhide HF) ?_; rintro e w2 ⟨rfl, col2, a, b⟩; have q5 := a.c5.1; have qz := a.c5.2; have A := hide a; have B2 := hide b; clear a b)
      go_end0
      exact (unhide A).upLc ((unhide Bw).drewTo.trans (unhide B2))

set_option maxHeartbeats 1000000 in
theorem let_w (B P M : Nat) (fv : Value) (col : Nat → Nat) (st : WK) (s : ByteArray) (w : World) (h : WS w B P M fv col st) (hs : small s = true) (hv : (Lit.int .i64 st.lc).wf = true) (hct : st.ct ≤ 10000000) (hod : st.od.length ≤ 10000000) (hb : st.sl.length ≤ 10000000) :
    Calls Tryz.prog 123 #[.pointer (some ⟨B, 0, none⟩), .string s] w (Walks B P M fv col w (st.letW s)) := by
  unfold WK.letW
  have hd : WS w.drew B P M fv col st := h.ext (Ext.drew (Ext.refl _))
  obtain ⟨lv, oa, ba, sa, ca, oc, bc, sc, cc, hB, hP, hm, h2, h3, h4, h5⟩ := hd.ex
  have c5 : w.cell? ⟨B, 5, none⟩ = some (.int .i64 st.lc) := rowC hB 5 rfl
  have c6 : w.cell? ⟨B, 6, none⟩ = some (.slice sa st.sl.length sc) := rowC hB 6 rfl
  have lB : B < w.heap.size := (Array.getElem?_eq_some_iff.1 hB).1
  have HU := hide (fun (w6 : World) (ob : Obj) (g' cap' : Nat) => hd.addSl (w6 := w6) hB hP hm h2 h3 h4 h5 ob (g' := g') (cap' := cap') (x := st.lc))
  have e0 : (nms st.sl).length = st.sl.length := List.length_map _
  have ho : w.drew.ownsRow 0 3 1 (.slice sa st.sl.length sc) st.sl.length (nms st.sl) := by have := h4.own; rw [e0] at this; exact this
  have HO := hide (fun ob => ho.alloc ob)
  have RB := hide hB
  have hown := h4.hue
  rw [e0] at hown
  have cB := h.cB
  have HW := hide hown
  obtain ⟨i0, hi, hz0, hz1, hz2⟩ := info_parts infoIS
  have HI := hide hi
  have Z0 := hide hz0
  have Z1 := hide hz1
  have Z2 := hide hz2
  clear hi hz0 hz1 hz2 h hd hB hP hm h2 h3 h4 h5 e0 hown ho
  go_enter Tryz.func123, Tryz.ntmps123
  go_wp2_with fail
  refine wp_nrm ?_
  first | skip; go_region_law (refine step_append_where rfl (.tmp 9) (.tmp 15) 45 rfl 0 3 i0 (.int .i64 0) 1 8 Tryz.underlying45 (unhide HI) (unhide Z0) (unhide Z1) (unhide Z2) rfl (by decide) sa st.sl.length sc (nms st.sl) (by simp [Act.eval, Act.put]) (unhide HO _) ⟨w.drew.heap.size, 0, none⟩ 1 1 [.int .i64 st.lc] (by simp [Act.eval, Act.put]) (by decide) rfl (cells_new w.drew _ _) (one_intS _) (by unfold maxLen; omega) (by omega) (Nat.zero_le _) ?_; intro g2 cap6 w6 ho6 hg6 hw6; have RZ := (hg6.block B (by simp; omega) (fun e => by have := unhide HW B e.symm; omega)).trans ((Ext.alloc _ _).row (unhide RB)); have z6 := rowC RZ 6 rfl; have zz := rowF RZ; have HR := hide (unhide HU w6 _ g2 cap6 ho6 hg6 hw6); clear ho6 hg6 hw6 RZ) | fail
  all_goals
    simp only [Nrm]
    refine gen_world (F := fun W => Exit.then _ _ Exit.normal _ W) ?_
    intro W hW
    have hR := unhide HR
    rw [← hW] at hR
    have HD := hide (declare_w B P M fv _ _ s W hR.1 hs hv hct hod)
    have K1 := hide hR.2
    clear hR HR hW c5 c6 z6 zz
    go_wp2_with (go_at_call 82; refine Calls.mono (unhide HD) ?_; rintro e w2 ⟨rfl, col2, a, b⟩; have A := hide a; have B2 := hide b; clear a b)
    go_end0
    exact (unhide A).up ((unhide K1).drewTo.trans (unhide B2))

end Go.Proofs.YtlgdjeiendmniaaGreatDoor

namespace Go.Proofs.YtlgdjeiendmniaaGreatDoor
open Go.RowKit Go.Maps

/-- What holds while the names of a block are struck out. -/
structure ClI (w wr : World) (col : Nat → Nat) (lv : Option Nat) (lm : List (ByteArray × Int)) (ct : Nat) : Prop where
  os : wr.os = w.os
  tape : wr.tape = w.tape
  output : wr.output = w.output
  size : w.heap.size ≤ wr.heap.size
  keep : ∀ k, k < w.heap.size → col k ≠ 1 → wr.heap[k]? = w.heap[k]?
  map : MapAt wr col lv lm ct
  mlt : ∀ b, lv = some b → b < w.heap.size

theorem RowAt.take {w : World} {col : Nat → Nat} {c : Nat} {t : TypeId} {a : Option Addr} {cap : Nat} {xs : List Value} (h : RowAt w col c t a cap xs) (m : Nat) (hm : m ≤ xs.length) : RowAt w col c t a cap (xs.take m) := by
  have hl : (xs.take m).length = m := by simp; omega
  refine ⟨?_, fun k e => h.hue k ?_⟩
  · obtain ⟨h1, h2⟩ := h.own
    rw [hl]
    refine ⟨by rw [hl]; omega, ?_⟩
    rcases h2 with ⟨e, h0⟩ | ⟨g, cap2, cur, e, hb, hg, hn, hcm, hcs, ht⟩
    · injection e with e1 e2 e3
      subst e1 e3
      have : m = 0 := by omega
      subst this
      exact Or.inl ⟨rfl, rfl⟩
    · injection e with e1 e2 e3
      subst e1 e3
      refine Or.inr ⟨g, cap, cur, rfl, hb, hg, by omega, hcm, hcs, ?_⟩
      rw [← ht, List.take_take]
      congr 1
      omega
  · cases a with
    | none => simp [Value.ownBlock] at e
    | some x => exact e

theorem Walks.drew {B P M : Nat} {fv : Value} {col : Nat → Nat} {w : World} {st : WK} {e : Ending} {w' : World} (h : Walks B P M fv col w st e w') : Walks B P M fv col w st e w'.drew := by
  obtain ⟨h1, col', h2, h3⟩ := h
  exact ⟨h1, col', h2.ext (Ext.drew (Ext.refl _)), h3.trans (Wk.ext (Ext.drew (Ext.refl _)))⟩

set_option maxHeartbeats 1000000 in
theorem close_w (B P M : Nat) (fv : Value) (col : Nat → Nat) (st : WK) (L m : Nat) (w : World) (h : WS w B P M fv col st) (hL : st.bk.length = L + 1) (hL2 : L < 10000000) (hlast : st.bk[L]? = some (m : Int)) (hm1 : m ≤ st.od.length) (hod : st.od.length ≤ 10000000) (hsm : ∀ x ∈ st.od, small x = true) :
    Calls Tryz.prog 124 #[.pointer (some ⟨B, 1, none⟩)] w (Walks B P M fv col w (st.shut m)) := by
  have HS := hide h
  obtain ⟨lv, oa, ba, sa, ca, oc, bc, sc, cc, hB, hP, hm, h2, h3, h4, h5⟩ := h.ex
  have c1 : w.cell? ⟨B, 1, none⟩ = some (.map lv) := rowC hB 1 rfl
  have c2 : w.cell? ⟨B, 2, none⟩ = some (.slice oa st.od.length oc) := rowC hB 2 rfl
  have c3 : w.cell? ⟨B, 3, none⟩ = some (.slice ba st.bk.length bc) := rowC hB 3 rfl
  have zf := rowF hB
  rw [hL] at c3
  have hoc : st.od.length ≤ oc := by
    rcases h2.own.2 with ⟨e, h0⟩ | ⟨_, _, _, e, _, _, hn, _⟩
    · simp at h0; rw [h0]; exact Nat.zero_le _
    · injection e with _ _ e3; subst e3; simpa using hn
  obtain ⟨gb, hgb, hbc⟩ : ∃ gb, ba = some ⟨gb, 0, none⟩ ∧ L + 1 ≤ bc := by
    rcases h3.own.2 with ⟨e, h0⟩ | ⟨g, _, _, e, _, _, hn, _⟩
    · simp at h0; rw [h0] at hL; simp at hL
    · injection e with e1 _ e3
      have e4 : (nms st.bk).length = st.bk.length := List.length_map _
      exact ⟨g, e1, by omega⟩
  subst hgb
  have cL : w.cell? ⟨gb, L, none⟩ = some (.int .i64 (m : Int)) := by
    have := cells_own h3.own L (.int .i64 (m : Int)) (by rw [List.getElem?_map, hlast]; rfl)
    rw [Nat.zero_add] at this
    exact this
  have KB := hide hB
  have lB := (Array.getElem?_eq_some_iff.1 hB).1
  have cB := h.cB
  have hmlt : ∀ b, lv = some b → b < w.heap.size := by
    intro b e
    rcases hm with ⟨e2, _⟩ | ⟨bm, n, e2, _, _, hmm⟩
    · rw [e2] at e; cases e
    · rw [e2] at e; injection e with e; subst e; exact hmm.lt
  have CI : Hd (ClI w w.drew col lv st.lm st.ct) := ⟨rfl, rfl, rfl, Nat.le_refl _, fun _ _ _ => rfl, by
    rcases hm with hm | ⟨bm, n, e, hc, hn, hm⟩
    · exact Or.inl hm
    · exact Or.inr ⟨bm, n, e, hc, hn, hm.keep rfl⟩, hmlt⟩
  have H2 := hide h2
  have H3 := hide h3
  have HSM := hide hsm
  clear hmlt
  have HFIN : Hd (∀ wr, ClI w wr col lv ((st.od.drop m).foldl drp st.lm) st.ct → Walks B P M fv col w (st.shut m) (.returned (.tuple #[])) ((wr.setCell ⟨B, 2, none⟩ (.slice oa m oc)).setCell ⟨B, 3, none⟩ (.slice (some ⟨gb, 0, none⟩) L bc))) := by
    intro wr hI
    have lP := (Array.getElem?_eq_some_iff.1 hP).1
    have cP := h.cP
    have hrB := (hI.keep B lB (by omega)).trans hB
    have hz : ((wr.setCell ⟨B, 2, none⟩ (.slice oa m oc)).setCell ⟨B, 3, none⟩ (.slice (some ⟨gb, 0, none⟩) L bc)).heap.size = wr.heap.size := by simp [World.setCell]
    have hk : ∀ k, k ≠ B → ((wr.setCell ⟨B, 2, none⟩ (.slice oa m oc)).setCell ⟨B, 3, none⟩ (.slice (some ⟨gb, 0, none⟩) L bc)).heap[k]? = wr.heap[k]? := fun k hk => (Below.heap_setCell _ _ _ _ hk).trans (Below.heap_setCell _ _ _ _ hk)
    have hr := row_set (row_set hrB 2 (.slice oa m oc)) 3 (.slice (some ⟨gb, 0, none⟩) L bc)
    have xo : ((wr.setCell ⟨B, 2, none⟩ (.slice oa m oc)).setCell ⟨B, 3, none⟩ (.slice (some ⟨gb, 0, none⟩) L bc)).os = w.os := hI.os
    have xt : ((wr.setCell ⟨B, 2, none⟩ (.slice oa m oc)).setCell ⟨B, 3, none⟩ (.slice (some ⟨gb, 0, none⟩) L bc)).tape = w.tape := hI.tape
    have xu : ((wr.setCell ⟨B, 2, none⟩ (.slice oa m oc)).setCell ⟨B, 3, none⟩ (.slice (some ⟨gb, 0, none⟩) L bc)).output = w.output := hI.output
    generalize (wr.setCell ⟨B, 2, none⟩ (.slice oa m oc)).setCell ⟨B, 3, none⟩ (.slice (some ⟨gb, 0, none⟩) L bc) = W at *
    have hsz := hI.size
    have kr : ∀ i, i ≠ 6 → i ≠ 1 → ∀ k, k < w.heap.size → col k = i → W.heap[k]? = w.heap[k]? := fun i h1 h2 k hk1 hc => (hk k (fun e => by rw [e, cB] at hc; omega)).trans (hI.keep k hk1 (by omega))
    have t2 := (unhide H2).take m (by simpa using hm1)
    have t3 := (unhide H3).take L (by simp; omega)
    have e2 : (strs st.od).take m = strs (st.od.take m) := (List.map_take).symm
    have e3 : (nms st.bk).take L = nms st.bk.dropLast := by rw [List.dropLast_eq_take, hL]; exact (List.map_take).symm
    have l2 : (st.od.take m).length = m := by simp; omega
    have l3 : st.bk.dropLast.length = L := by simp; omega
    rw [e2] at t2
    rw [e3] at t3
    refine ⟨rfl, col, ⟨fun k h1 => h.fresh k (by omega), cB, cP, lv, oa, some ⟨gb, 0, none⟩, sa, ca, oc, bc, sc, cc, ?_, (kr 7 (by decide) (by decide) P lP cP).trans hP, ?_, t2.keep (kr 2 (by decide) (by decide)) (fun _ _ => rfl), t3.keep (kr 3 (by decide) (by decide)) (fun _ _ => rfl), h4.keep (kr 4 (by decide) (by decide)) (fun _ _ => rfl), h5.keep (kr 5 (by decide) (by decide)) (fun _ _ => rfl)⟩, ⟨xo, xt, xu, by omega, fun _ _ => rfl, fun k h1 h0 => kr 0 (by decide) (by decide) k h1 h0⟩⟩
    · show W.heap[B]? = some (wkO P lv oa (st.od.take m).length oc (some ⟨gb, 0, none⟩) st.bk.dropLast.length bc st.lp st.lc sa st.sl.length sc ca st.cl.length cc st.e)
      rw [l2, l3]
      simpa only [List.setIfInBounds_toArray, List.set_cons_zero, List.set_cons_succ] using hr
    · rcases hI.map with hmm | ⟨bm, n, e, hc, hn, hmm⟩
      · exact Or.inl hmm
      · exact Or.inr ⟨bm, n, e, hc, hn, hmm.keep (hk bm (fun e => by rw [e, cB] at hc; omega))⟩
  have hgbl : gb < w.heap.size := World.block_lt_of_cell? w ⟨gb, L, none⟩ cL
  have hgbc : col gb = 3 := h3.hue gb rfl
  have HOW : Hd (oc ≠ m → ∃ go, oa = some ⟨go, 0, none⟩ ∧ go < w.heap.size ∧ col go = 2 ∧ ∀ i x, st.od[i]? = some x → w.cell? ⟨go, i, none⟩ = some (.string x)) := by
    intro hne
    rcases h2.own.2 with ⟨e, h0⟩ | ⟨g, _, _, e, _, hgg, _⟩
    · injection e with _ _ e3; simp at h0; rw [h0] at hm1; simp at hm1; omega
    · injection e with e1 _ _
      subst e1
      refine ⟨g, rfl, (Array.getElem?_eq_some_iff.1 hgg).1, h2.hue g rfl, fun i x hx => ?_⟩
      have := cells_own h2.own i (.string x) (by rw [List.getElem?_map, hx]; rfl)
      rw [Nat.zero_add] at this
      exact this
  clear h hB hP hm h2 h3 h4 h5
  rcases Decidable.em (oc = m) with hcm | hcm
  · have hcm2 := hcm.symm
    subst hcm2
    go_enter Tryz.func124, Tryz.ntmps124
    go_wp2_with fail
    refine wp_nrm ?_
    first | skip; go_region | fail
    all_goals
      simp only [Nrm]
      go_wp2_with fail
      go_loopw [24] (fun t wr => ∃ j : Nat, t = .int .i64 j ∧ j ≤ st.od.length - m ∧ Hd (ClI w wr col lv (((st.od.drop m).take j).foldl drp st.lm) st.ct)) (fun t _ => st.od.length - m - (intOf t).toNat)
      case atStart => exact ⟨0, rfl, Nat.zero_le _, CI⟩
      case round =>
        obtain ⟨j, rfl, hj, hI⟩ := hrel
        have hrB := ((unhide hI).keep B lB (by omega)).trans (unhide KB)
        have k1 := rowC hrB 1 rfl
        have k2 := rowC hrB 2 rfl
        have k3 := rowC hrB 3 rfl
        rw [hL] at k3
        have kz := rowF hrB
        have kL : wr.cell? ⟨gb, L, none⟩ = some (.int .i64 (m : Int)) := (by rw [World.cell?_of_block (w := w) ((unhide hI).keep gb hgbl (by omega))]; exact cL)
        clear hrB
        by_cases hlt : j < st.od.length - m
        · omega
        · have hje : (st.od.drop m).take j = st.od.drop m := List.take_of_length_le (by simp; omega)
          have HI := hide hI
          rw [hje] at hI
          have hjj : ¬ ((j : Int) < ((st.od.length - m : Nat) : Int)) := by omega
          go_wp2_with fail
          refine wp_nrm ?_
          first | skip; go_region | fail
          all_goals
            simp only [Nrm]
            go_wp2_with fail
            go_end0
            exact (unhide HFIN wr (unhide hI)).drew
  · obtain ⟨go, rfl, hgl, hgc, hcells⟩ := unhide HOW hcm
    have HC := hide hcells
    clear hcells
    cases lv with
    | none =>
      go_enter Tryz.func124, Tryz.ntmps124
      go_wp2_with fail
      refine wp_nrm ?_
      first | skip; go_region | fail
      all_goals
        simp only [Nrm]
        go_wp2_with fail
        go_loopw [24] (fun t wr => ∃ j : Nat, t = .int .i64 j ∧ j ≤ st.od.length - m ∧ Hd (ClI w wr col none (((st.od.drop m).take j).foldl drp st.lm) st.ct)) (fun t _ => st.od.length - m - (intOf t).toNat)
        case atStart => exact ⟨0, rfl, Nat.zero_le _, CI⟩
        case round =>
          obtain ⟨j, rfl, hj, hI⟩ := hrel
          have hrB := ((unhide hI).keep B lB (by omega)).trans (unhide KB)
          have k1 := rowC hrB 1 rfl
          have k2 := rowC hrB 2 rfl
          have k3 := rowC hrB 3 rfl
          rw [hL] at k3
          have kz := rowF hrB
          have kL : wr.cell? ⟨gb, L, none⟩ = some (.int .i64 (m : Int)) := (by rw [World.cell?_of_block (w := w) ((unhide hI).keep gb hgbl (by omega))]; exact cL)
          clear hrB
          by_cases hlt : j < st.od.length - m
          · obtain ⟨x, hx⟩ : ∃ x, st.od[m + j]? = some x := ⟨_, List.getElem?_eq_getElem (by omega)⟩
            have cx : wr.cell? ⟨go, m + j, none⟩ = some (.string x) := by rw [World.cell?_of_block (w := w) ((unhide hI).keep go hgl (by omega))]; exact unhide HC _ _ hx
            have hsx := unhide HSM x (List.mem_of_getElem? hx)
            have HTK := hide (show ((st.od.drop m).take (j + 1)).foldl drp st.lm = drp (((st.od.drop m).take j).foldl drp st.lm) x by
              rw [List.take_succ_eq_append_getElem (by simp; omega), List.foldl_append]
              have hxx : (st.od.drop m)[j]'(by simp; omega) = x := by
                rw [List.getElem_drop]
                exact (List.getElem?_eq_some_iff.1 hx).2
              rw [hxx]
              rfl)
            have hjj : ((j : Int) < ((st.od.length - m : Nat) : Int)) := by omega
            clear hx
            have hdn : ∀ (W : World) ty, (Builtin.delete_ #[106, 9] ty #[.map none, .string x]).run Tryz.prog W = .ok (.tuple #[]) W := fun W ty => Maps.drop_nil keyS Tryz.underlying106 (small_key hsx) ty
            go_wp2_with fail
            go_roundw
            case rel =>
              refine ⟨j + 1, by go_num, by omega, ?_⟩
              have h0 := unhide hI
              refine ⟨h0.os, h0.tape, h0.output, h0.size, h0.keep, Or.inl ⟨rfl, ?_⟩, h0.mlt⟩
              rw [unhide HTK]
              rcases h0.map with ⟨_, e⟩ | ⟨_, _, e, _⟩
              · rw [e]; rfl
              · cases e
            case measure => simp [intOf]; omega
          · have hje : (st.od.drop m).take j = st.od.drop m := List.take_of_length_le (by simp; omega)
            have HI := hide hI
            rw [hje] at hI
            have hjj : ¬ ((j : Int) < ((st.od.length - m : Nat) : Int)) := by omega
            go_wp2_with fail
            refine wp_nrm ?_
            first | skip; go_region | fail
            all_goals
              simp only [Nrm]
              go_wp2_with fail
              go_end0
              exact (unhide HFIN wr (unhide hI)).drew
    | some bm =>
      go_enter Tryz.func124, Tryz.ntmps124
      go_wp2_with fail
      refine wp_nrm ?_
      first | skip; go_region | fail
      all_goals
        simp only [Nrm]
        go_wp2_with fail
        go_loopw [24] (fun t wr => ∃ j : Nat, t = .int .i64 j ∧ j ≤ st.od.length - m ∧ Hd (ClI w wr col (some bm) (((st.od.drop m).take j).foldl drp st.lm) st.ct)) (fun t _ => st.od.length - m - (intOf t).toNat)
        case atStart => exact ⟨0, rfl, Nat.zero_le _, CI⟩
        case round =>
          obtain ⟨j, rfl, hj, hI⟩ := hrel
          have hrB := ((unhide hI).keep B lB (by omega)).trans (unhide KB)
          have k1 := rowC hrB 1 rfl
          have k2 := rowC hrB 2 rfl
          have k3 := rowC hrB 3 rfl
          rw [hL] at k3
          have kz := rowF hrB
          have kL : wr.cell? ⟨gb, L, none⟩ = some (.int .i64 (m : Int)) := (by rw [World.cell?_of_block (w := w) ((unhide hI).keep gb hgbl (by omega))]; exact cL)
          clear hrB
          by_cases hlt : j < st.od.length - m
          · obtain ⟨x, hx⟩ : ∃ x, st.od[m + j]? = some x := ⟨_, List.getElem?_eq_getElem (by omega)⟩
            have cx : wr.cell? ⟨go, m + j, none⟩ = some (.string x) := by rw [World.cell?_of_block (w := w) ((unhide hI).keep go hgl (by omega))]; exact unhide HC _ _ hx
            have hsx := unhide HSM x (List.mem_of_getElem? hx)
            have HTK := hide (show ((st.od.drop m).take (j + 1)).foldl drp st.lm = drp (((st.od.drop m).take j).foldl drp st.lm) x by
              rw [List.take_succ_eq_append_getElem (by simp; omega), List.foldl_append]
              have hxx : (st.od.drop m)[j]'(by simp; omega) = x := by
                rw [List.getElem_drop]
                exact (List.getElem?_eq_some_iff.1 hx).2
              rw [hxx]
              rfl)
            have hjj : ((j : Int) < ((st.od.length - m : Nat) : Int)) := by omega
            clear hx
            obtain ⟨n, hc1, hn, D, hD, hxs⟩ : ∃ n, col bm = 1 ∧ n ≤ st.ct ∧ MapIs wr bm n (((st.od.drop m).take j).foldl drp st.lm) := by
              rcases (unhide hI).map with ⟨e, _⟩ | ⟨b2, n, e, h1, h2, h3⟩
              · cases e
              · injection e with e; subst e; exact ⟨n, h1, h2, h3⟩
            have HD := hide hD
            have HXS := hide hxs
            have HK := hide (small_key hsx)
            clear hD hxs
            go_wp2_with (at_delete; refine wpList_delete_own _ rfl _ _ 106 9 rfl 3 keyS Tryz.underlying106 _ bm n D rfl (unhide HD) _ _ rfl (unhide HK) ?_; intro w1 ho1 ht1; have HO1 := hide ho1; have HT1 := hide ht1; clear ho1 ht1)
            go_roundw
            case rel =>
              refine ⟨j + 1, by go_num, by omega, ?_⟩
              have h0 := unhide hI
              have hg := (unhide HT1).grown
              refine ⟨hg.os.trans h0.os, hg.tape.trans h0.tape, hg.output.trans h0.output, Nat.le_trans h0.size hg.size, fun k h1 hc => (hg.block k (Nat.lt_of_lt_of_le h1 h0.size) (fun e => by injection e with e; rw [e] at hc; exact hc hc1)).trans (h0.keep k h1 hc), Or.inr ⟨bm, n, rfl, hc1, hn, ?_⟩, h0.mlt⟩
              rw [unhide HTK]
              exact MapIs.del (unhide HXS) (unhide HO1)
            case measure => simp [intOf]; omega
          · have hje : (st.od.drop m).take j = st.od.drop m := List.take_of_length_le (by simp; omega)
            have HI := hide hI
            rw [hje] at hI
            have hjj : ¬ ((j : Int) < ((st.od.length - m : Nat) : Int)) := by omega
            go_wp2_with fail
            refine wp_nrm ?_
            first | skip; go_region | fail
            all_goals
              simp only [Nrm]
              go_wp2_with fail
              go_end0
              exact (unhide HFIN wr (unhide hI)).drew

end Go.Proofs.YtlgdjeiendmniaaGreatDoor
