/- What is built in. · What a name that is called leads to. · What a node asks for ahead of its parts, and behind them. · What a node asks for behind its parts. -/
import Derived.Test.YtlgdjeiendmniaaGreatDoorZg27
import Derived.Deep.MidRow
set_option linter.unusedSimpArgs false
set_option linter.unusedVariables false
set_option maxRecDepth 10000

namespace Go.Proofs.YtlgdjeiendmniaaGreatDoor
open Go.RowKit Go.Maps

def biT : List Value := [.int .i64 13, .int .i64 14, .int .i64 17, .int .i64 18, .int .i64 19, .int .i64 20]
/-- The two tables are as the program's text lays them. -/
structure Tbl (w : World) : Prop where
  bi : w.rangeAt 1 0 biT
  nm : ∀ (j : Nat) (x : ByteArray × Int × Int), biL[j]? = some x → w.cell? ⟨2, x.2.1.toNat, none⟩ = some (.string x.1)

theorem Tbl.ext {w w' : World} (h : Tbl w) (e : Ext w w') : Tbl w' := ⟨fun j v hv => e.cell (h.bi j v hv), fun j x hx => e.cell (h.nm j x hx)⟩

theorem bi_at (j : Nat) (x : ByteArray × Int × Int) (h : biL[j]? = some x) (W : World) : (Instr.index 145 (.agg biT.toArray) (.int .i64 (j : Int))).run Tryz.prog W = .ok (.int .i64 x.2.1) W := by
  match j, h with
  | 0, h => obtain rfl := Option.some.inj h; rfl
  | 1, h => obtain rfl := Option.some.inj h; rfl
  | 2, h => obtain rfl := Option.some.inj h; rfl
  | 3, h => obtain rfl := Option.some.inj h; rfl
  | 4, h => obtain rfl := Option.some.inj h; rfl
  | 5, h => obtain rfl := Option.some.inj h; rfl
  | j + 6, h => simp [biL] at h

theorem bi_fit (j : Nat) (x : ByteArray × Int × Int) (h : biL[j]? = some x) : 13 ≤ x.2.1 ∧ x.2.1 ≤ 20 ∧ x.2.2 = (if x.2.1 ≤ 14 then 2 else 1) ∧ ((x.2.1.toNat : Nat) : Int) = x.2.1 := by
  match j, h with
  | 0, h => obtain rfl := Option.some.inj h; decide
  | 1, h => obtain rfl := Option.some.inj h; decide
  | 2, h => obtain rfl := Option.some.inj h; decide
  | 3, h => obtain rfl := Option.some.inj h; decide
  | 4, h => obtain rfl := Option.some.inj h; decide
  | 5, h => obtain rfl := Option.some.inj h; decide
  | j + 6, h => simp [biL] at h

set_option maxHeartbeats 1000000 in
theorem arity_op (op : Int) (h1 : 13 ≤ op) (h2 : op ≤ 20) (w : World) : Calls Tryz.prog 81 #[.int .i64 op] w fun e w' => e = .returned (.int .i64 (if op ≤ 14 then 2 else 1)) ∧ w' = w := by
  by_cases h : op ≤ 14
  · rw [if_pos h]
    have a1 : 1 ≤ op := by omega
    go_enter Tryz.func81, Tryz.ntmps81
    go_wp2_with fail
    go_ret
    exact ⟨rfl, rfl⟩
  · rw [if_neg h]
    have a1 : 1 ≤ op := by omega
    have a2 : 15 ≤ op := by omega
    go_enter Tryz.func81, Tryz.ntmps81
    go_wp2_with fail
    go_ret
    exact ⟨rfl, rfl⟩

set_option maxHeartbeats 1000000 in
theorem name_op (op : Int) (i : Nat) (s : ByteArray) (hi : (i : Int) = op) (h1 : 13 ≤ op) (h2 : op ≤ 20) (w : World) (hc : w.cell? ⟨2, i, none⟩ = some (.string s)) : Calls Tryz.prog 80 #[.int .i64 op] w fun e w' => e = .returned (.string s) ∧ w' = w := by
  have HA := hide (arity_op op h1 h2 w)
  obtain ⟨n, hn⟩ : ∃ n : Int, n = (if op ≤ 14 then 2 else 1) := ⟨_, rfl⟩
  have hn0 : (n == 0) = false := by rw [hn]; split <;> rfl
  rw [← hn] at HA
  subst hi
  have b1 : i < 21 := by omega
  clear hn h1 h2
  go_enter Tryz.func80, Tryz.ntmps80
  go_wp2_with (go_at_call 81; refine Calls.mono (unhide HA) ?_; rintro e w1 ⟨rfl, hw⟩; obtain rfl := hw.symm)
  go_ret
  exact ⟨rfl, rfl⟩

def biV (s : ByteArray) : Value := match biP s with
  | some (o, n) => .tuple #[.int .i64 o, .int .i64 n, .bool true]
  | none => .tuple #[.int .i64 0, .int .i64 0, .bool false]

def biHit (s : ByteArray) (x : ByteArray × Int × Int) : Bool := x.1.data.toList == s.data.toList
theorem bi_step {s : ByteArray} {j : Nat} {x : ByteArray × Int × Int} (h : biL[j]? = some x) (hn : ∀ y ∈ biL.take j, biHit s y = false) : if biHit s x then biP s = some x.2 else ∀ y ∈ biL.take (j + 1), biHit s y = false := by
  obtain ⟨hj, hx0⟩ := List.getElem?_eq_some_iff.1 h
  have hd : biL = biL.take j ++ x :: biL.drop (j + 1) := by
    rw [← hx0, ← List.drop_eq_getElem_cons hj, List.take_append_drop]
  split
  · rename_i hx
    have hf : biL.find? (biHit s) = some x := by
      rw [hd, List.find?_append, List.find?_eq_none.2 (fun y hy => by rw [hn y hy]; decide)]
      simp [hx]
    unfold biP
    rw [show (fun p : ByteArray × Int × Int => p.1.data.toList == s.data.toList) = biHit s from rfl, hf]
    rfl
  · rename_i hx
    intro y hy
    rw [List.take_succ_eq_append_getElem hj, hx0] at hy
    rcases List.mem_append.1 hy with hy | hy
    · exact hn y hy
    · rw [List.mem_singleton.1 hy]; simpa using hx
theorem bi_none {s : ByteArray} (hn : ∀ y ∈ biL.take 6, biHit s y = false) : biP s = none := by
  have hf : biL.find? (biHit s) = none := List.find?_eq_none.2 (fun y hy => by rw [hn y hy]; decide)
  unfold biP
  rw [show (fun p : ByteArray × Int × Int => p.1.data.toList == s.data.toList) = biHit s from rfl, hf]
  rfl

set_option maxHeartbeats 1000000 in
theorem builtin_w (s : ByteArray) (w : World) (hT : Tbl w) : Calls Tryz.prog 51 #[.string s] w fun e w' => e = .returned (biV s) ∧ w' = w := by
  have HL := hide hT.bi
  have HX := hide bi_at
  have HZ : Hd ((Tryz.prog.info? 145).map (·.size) = some biT.length) := by unfold Hd; kernel_rfl
  have HT := hide hT
  generalize biT = tab at HL HX HZ
  clear hT
  go_enter Tryz.func51, Tryz.ntmps51
  go_wp2_with (refine wpList_load_mid rfl 145 (.global 1) rfl 1 0 rfl tab _ (unhide HL) Tryz.underlying145 rfl (unhide HZ) ?_)
  go_loopw [8] (fun i wr => ∃ j : Nat, i = .int .i64 j ∧ j ≤ 6 ∧ Hd (∀ y ∈ biL.take j, biHit s y = false) ∧ wr = w) (fun i _ => 6 - (intOf i).toNat)
  case atStart => exact ⟨0, rfl, by omega, fun y hy => by simp at hy, rfl⟩
  case round =>
    obtain ⟨j, rfl, hj, hN, rfl⟩ := hrel
    by_cases hlt : j < 6
    · obtain ⟨x, hx⟩ : ∃ x, biL[j]? = some x := ⟨_, List.getElem?_eq_getElem hlt⟩
      have hix := unhide HX j x hx
      have hst := bi_step hx (unhide hN)
      obtain ⟨f1, f2, f3, f4⟩ := bi_fit j x hx
      have HNm := hide (name_op x.2.1 x.2.1.toNat x.1 f4 f1 f2 wr ((unhide HT).nm j x hx))
      have HAr := hide (arity_op x.2.1 f1 f2 wr)
      rw [← f3] at HAr
      obtain ⟨xs, xo, xn⟩ := x
      simp only at hix HNm HAr
      clear f1 f2 f3 f4 hx
      cases h1 : (xs.toList == s.toList)
      · have hh : biHit s (xs, xo, xn) = false := by unfold biHit; rw [← ByteArray.toList_eq, ← ByteArray.toList_eq]; exact h1
        rw [hh, if_neg (by decide)] at hst
        have HN2 := hide hst
        clear hst hh
        go_wp2_with (go_at_call 80; refine Calls.mono (unhide HNm) ?_; rintro e w1 ⟨rfl, hw⟩; obtain rfl := hw.symm)
        go_roundw
        case rel => exact ⟨j + 1, by go_num, by omega, HN2, by first | rfl | trivial⟩
        case measure => simp [intOf]; omega
      · have hh : biHit s (xs, xo, xn) = true := by unfold biHit; rw [← ByteArray.toList_eq, ← ByteArray.toList_eq]; exact h1
        rw [hh, if_pos rfl] at hst
        have HV : Hd (biV s = .tuple #[.int .i64 xo, .int .i64 xn, .bool true]) := by unfold Hd biV; rw [hst]
        clear hst hh
        go_wp2_with (first
          | (go_at_call 80; refine Calls.mono (unhide HNm) ?_; rintro e w1 ⟨rfl, hw⟩; obtain rfl := hw.symm)
          | (go_at_call 81; refine Calls.mono (unhide HAr) ?_; rintro e w1 ⟨rfl, hw⟩; obtain rfl := hw.symm))
        rw [unhide HV]
        exact bodyPost_ret (v := .tuple #[.int .i64 xo, .int .i64 xn, .bool true]) (by simp [results, Tryz.results51]) rfl ⟨rfl, rfl⟩
    · have hj6 : j = 6 := by omega
      subst hj6
      have HV : Hd (biV s = .tuple #[.int .i64 0, .int .i64 0, .bool false]) := by unfold Hd biV; rw [bi_none (unhide hN)]
      go_wp2_with fail
      rw [unhide HV]
      exact bodyPost_ret (v := .tuple #[.int .i64 0, .int .i64 0, .bool false]) (by simp [results, Tryz.results51]) rfl ⟨rfl, rfl⟩

end Go.Proofs.YtlgdjeiendmniaaGreatDoor

namespace Go.Proofs.YtlgdjeiendmniaaGreatDoor
open Go.RowKit Go.Maps

/-- What all functions of a program have in common, in blocks that no walk turns. -/
structure Ctx (w : World) (col : Nat → Nat) (M : Nat) (fv : Value) (nm : List (ByteArray × Int)) (fs : List PFn) : Prop where
  tbl : Tbl w
  g0 : col 1 = 0
  g1 : col 2 = 0
  map : ∃ n, MapIs w M n nm
  cM : col M = 0
  fns : ∃ fa fcap, fv = .slice fa fs.length fcap ∧ fs.length ≤ fcap ∧ RepFL w (fun k => col k = 0 ∧ k < w.heap.size) fs fa
  num : ∀ s i, lkp nm s = some i → 0 ≤ i ∧ i.toNat < fs.length
  bnd : fs.length ≤ 100001

theorem Ctx.on {w w' : World} {col col' : Nat → Nat} {M : Nat} {fv : Value} {nm : List (ByteArray × Int)} {fs : List PFn} (h : Ctx w col M fv nm fs) (k : Wk col col' w w') : Ctx w' col' M fv nm fs := by
  have hc : ∀ b o (u : Value), col b = 0 → w.cell? ⟨b, o, none⟩ = some u → w'.cell? ⟨b, o, none⟩ = some u := fun b o u h0 hu => by
    rw [World.cell?_of_block (w := w) (k.keep b (World.block_lt_of_cell? w ⟨b, o, none⟩ hu) h0)]; exact hu
  obtain ⟨n, hm⟩ := h.map
  obtain ⟨fa, fcap, e, hf, hr⟩ := h.fns
  have l0 : 1 < w.heap.size := World.block_lt_of_cell? w ⟨1, 0, none⟩ (h.tbl.bi 0 _ rfl)
  have l1 : 2 < w.heap.size := World.block_lt_of_cell? w ⟨2, 13, none⟩ (h.tbl.nm 0 _ rfl)
  exact ⟨⟨fun j v hv => hc _ _ _ h.g0 (h.tbl.bi j v hv), fun j x hx => hc _ _ _ h.g1 (h.tbl.nm j x hx)⟩, (k.same _ l0).trans h.g0, (k.same _ l1).trans h.g1, ⟨n, hm.keep (k.keep M hm.lt h.cM)⟩, (k.same M hm.lt).trans h.cM, ⟨fa, fcap, e, hf, hr.to (fun b hb => ⟨⟨(k.same b hb.2).trans hb.1, Nat.lt_of_lt_of_le hb.2 k.size⟩, k.keep b hb.2 hb.1⟩)⟩, h.num, h.bnd⟩

def calV (nm : List (ByteArray × Int)) (fs : List PFn) (s : ByteArray) : Value := match calP nm fs s with
  | some (i, n) => .tuple #[.int .i64 i, .int .i64 n, .bool true]
  | none => .tuple #[.int .i64 0, .int .i64 0, .bool false]

set_option maxHeartbeats 1000000 in
theorem called_w (P M : Nat) (fv : Value) (sp : Int) (col : Nat → Nat) (nm : List (ByteArray × Int)) (fs : List PFn) (s : ByteArray) (w : World) (hP : w.heap[P]? = some (pgO fv M sp)) (hC : Ctx w col M fv nm fs) (hs : small s = true) :
    Calls Tryz.prog 152 #[.pointer (some ⟨P, 0, none⟩), .string s] w fun e w' => e = .returned (calV nm fs s) ∧ Ext w w' := by
  have HB := hide (builtin_w s w hC.tbl)
  have p0 : w.cell? ⟨P, 0, none⟩ = some fv := rowC hP 0 rfl
  have p1 : w.cell? ⟨P, 1, none⟩ = some (.map (some M)) := rowC hP 1 rfl
  unfold biV at HB
  cases hb : biP s with
  | some q =>
    obtain ⟨o, n⟩ := q
    rw [hb] at HB
    have HV : Hd (calV nm fs s = .tuple #[.int .i64 (wrap64 (o + 1000)), .int .i64 n, .bool true]) := by unfold Hd calV calP; rw [hb]
    clear hP hC hb
    simp only at HB
    go_enter Tryz.func152, Tryz.ntmps152
    go_wp2_with (go_at_call 51; refine Calls.mono (unhide HB) ?_; rintro e w1 ⟨rfl, hw⟩; obtain rfl := hw.symm)
    rw [unhide HV]
    exact bodyPost_ret (v := .tuple #[.int .i64 (wrap64 (o + 1000)), .int .i64 n, .bool true]) (by simp [results, Tryz.results152]) rfl ⟨rfl, Ext.refl _⟩
  | none =>
    rw [hb] at HB
    simp only at HB
    obtain ⟨n, hm⟩ := hC.map
    obtain ⟨c, hrun, hv⟩ := look_run hm hs
    cases hl : lkp nm s with
    | none =>
      rw [hl] at hrun
      have HV : Hd (calV nm fs s = .tuple #[.int .i64 0, .int .i64 0, .bool false]) := by unfold Hd calV calP; rw [hb]; simp only; rw [hl]
      clear hP hC hb hm hv
      simp only [Option.isSome_none] at hrun
      go_enter Tryz.func152, Tryz.ntmps152
      go_wp2_with (go_at_call 51; refine Calls.mono (unhide HB) ?_; rintro e w1 ⟨rfl, hw⟩; obtain rfl := hw.symm)
      rw [unhide HV]
      exact bodyPost_ret (v := .tuple #[.int .i64 0, .int .i64 0, .bool false]) (by simp [results, Tryz.results152]) rfl ⟨rfl, Ext.refl _⟩
    | some i =>
      rw [hl] at hrun
      obtain rfl := hv i hl
      obtain ⟨hi0, hi1⟩ := hC.num s c hl
      obtain ⟨k, rfl⟩ : ∃ k : Nat, c = k := ⟨c.toNat, by omega⟩
      have hk : k < fs.length := by simpa using hi1
      obtain ⟨p, hp⟩ : ∃ p, fs[k]? = some p := ⟨_, List.getElem?_eq_getElem hk⟩
      obtain ⟨fa, fcap, rfl, hf, hr⟩ := hC.fns
      have HV : Hd (calV nm fs s = .tuple #[.int .i64 (k : Int), .int .i64 (p.ps.length : Int), .bool true]) := by
        unfold Hd calV calP
        rw [hb]
        simp only
        rw [hl]
        simp only [Int.toNat_natCast]
        rw [hp]
        rfl
      rcases hr with hnil | ⟨b, off, xs, rfl, hbb, hx, hc⟩
      · rw [hnil] at hk; simp at hk
      obtain ⟨pa, pc, a2, cap2, h1, h2, _, _, hat⟩ := hx.at hp
      have q1 := hc _ _ (hat 1 _ rfl)
      simp only [← Nat.add_assoc] at q1
      simp only [Option.isSome_some] at hrun
      clear hP hC hb hm hv hx hc hat hl hi0 hi1
      go_enter Tryz.func152, Tryz.ntmps152
      go_wp2_with (go_at_call 51; refine Calls.mono (unhide HB) ?_; rintro e w1 ⟨rfl, hw⟩; obtain rfl := hw.symm)
      refine wp_nrm ?_
      first | skip; go_region | fail
      all_goals
        simp only [Nrm]
        go_wp2_with fail
        rw [unhide HV]
        exact bodyPost_ret (v := .tuple #[.int .i64 (k : Int), .int .i64 (p.ps.length : Int), .bool true]) (by simp [results, Tryz.results152]) rfl ⟨rfl, Ext.drew (Ext.refl _)⟩

set_option maxHeartbeats 1000000 in
theorem call_w (B P M : Nat) (fv : Value) (col : Nat → Nat) (st : WK) (nm : List (ByteArray × Int)) (fs : List PFn) (s : ByteArray) (k : Nat) (w : World) (h : WS w B P M fv col st) (hC : Ctx w col M fv nm fs) (hs : small s = true) (hb : st.cl.length ≤ 10000000) :
    Calls Tryz.prog 125 #[.pointer (some ⟨B, 0, none⟩), .string s, .int .i64 (k : Int)] w (Walks B P M fv col w (st.call nm fs s k)) := by
  obtain ⟨lv, oa, ba, sa, ca, oc, bc, sc, cc, hB, hP, hm, h2, h3, h4, h5⟩ := id h.ex
  have c0 : w.cell? ⟨B, 0, none⟩ = some (.pointer (some ⟨P, 0, none⟩)) := rowC hB 0 rfl
  have HCd := hide (called_w P M fv st.sp col nm fs s w hP hC hs)
  have HF := hide (fun c W (x : Ext w W) => fail_w B P M fv col st c W (h.ext x))
  have HS := hide h
  unfold WK.call
  unfold calV at HCd
  cases hq : calP nm fs s with
  | none =>
    rw [hq] at HCd
    simp only at HCd ⊢
    clear h hC hB hP hm h2 h3 h4 h5
    go_enter Tryz.func125, Tryz.ntmps125
    go_wp2_with (first
      | (go_at_call 152; refine Calls.mono (unhide HCd) ?_; rintro e w1 ⟨rfl, hw⟩; have X := hide hw; clear hw)
      | (go_at_call 54; refine Calls.mono (unhide HF _ _ (unhide X)) ?_; rintro e w2 ⟨rfl, col2, a, b⟩; have A := hide a; have B2 := hide b; clear a b))
    go_end0
    exact (unhide A).up ((Wk.ext (unhide X)).trans (unhide B2))
  | some q =>
    obtain ⟨i, n⟩ := q
    rw [hq] at HCd
    simp only at HCd ⊢
    by_cases hn : n = k
    · rw [if_pos hn]
      subst hn
      have HXX := hide (fun W (x : Ext w W) => (h.ext x).ex)
      obtain ⟨i0, hi, hz0, hz1, hz2⟩ := info_parts infoIS
      have HI := hide hi
      have Z0 := hide hz0
      have Z1 := hide hz1
      have Z2 := hide hz2
      clear hi hz0 hz1 hz2 hC hB hP hm h2 h3 h4 h5 HF h
      go_enter Tryz.func125, Tryz.ntmps125
      go_wp2_with (first
        | (go_at_call 152; refine Calls.mono (unhide HCd) ?_; rintro e w1 ⟨rfl, hw⟩; have hx := (unhide HS).ext hw; obtain ⟨lv2, oa2, ba2, sa2, ca2, oc2, bc2, sc2, cc2, kB, kP, km, k2, k3, k4, k5⟩ := id hx.ex; have c7 : w1.cell? ⟨B, 7, none⟩ = some (.slice ca2 st.cl.length cc2) := rowC kB 7 rfl; have HU := hide (fun (w6 : World) (ob : Obj) (g' cap' : Nat) => hx.addCl (w6 := w6) kB kP km k2 k3 k4 k5 ob (g' := g') (cap' := cap') (x := i)); have e0 : (nms st.cl).length = st.cl.length := List.length_map _; have ho : w1.ownsRow 0 3 1 (.slice ca2 st.cl.length cc2) st.cl.length (nms st.cl) := (by have h0 := k5.own; rw [e0] at h0; exact h0); have HO := hide (fun ob => ho.alloc ob); have RB := hide kB; have hown := k5.hue; rw [e0] at hown; have HW := hide hown; have CB := hide hx.cB; have X1 := hide hw; have l2 : B < w1.heap.size := (Array.getElem?_eq_some_iff.1 kB).1; clear hx kB kP km k2 k3 k4 k5 ho hown e0 hw)
        | (at_builtin; refine wpList_append_where rfl (.tmp 24) (.tmp 26) 45 rfl 0 3 i0 (.int .i64 0) 1 8 Tryz.underlying45 (unhide HI) (unhide Z0) (unhide Z1) (unhide Z2) rfl (by decide) ca2 st.cl.length cc2 (nms st.cl) rfl (unhide HO _) ⟨w1.heap.size, 0, none⟩ 1 1 [.int .i64 i] rfl (by decide) rfl (cells_new w1 _ _) (one_intS _) ?c1 ?c2 (Nat.zero_le _) ?_))
      case c1 => unfold maxLen; omega
      case c2 => omega
      intro g' cap' w6 ho6 hg6 hw6
      have RZ := (hg6.block B (by simp; omega) (fun e => by have h1 := unhide HW B e.symm; have h2 := unhide CB; omega)).trans ((Ext.alloc _ _).row (unhide RB))
      have z7 := rowC RZ 7 rfl
      have zz := rowF RZ
      have HR := hide (unhide HU w6 _ g' cap' ho6 hg6 (by rw [size_alloc]; exact hw6))
      clear ho6 hg6 hw6 RZ
      go_wp2_with fail
      go_end0
      exact (unhide HR).1.up ((Wk.ext (unhide X1)).trans (unhide HR).2)
    · rw [if_neg hn]
      have hn2 : (n == (k : Int)) = false := by simpa using hn
      have hn3 : (n != (k : Int)) = true := by simp [hn]
      clear hn h hC hB hP hm h2 h3 h4 h5
      go_enter Tryz.func125, Tryz.ntmps125
      go_wp2_with (first
        | (go_at_call 152; refine Calls.mono (unhide HCd) ?_; rintro e w1 ⟨rfl, hw⟩; have X := hide hw; clear hw)
        | (go_at_call 54; refine Calls.mono (unhide HF _ _ (unhide X)) ?_; rintro e w2 ⟨rfl, col2, a, b⟩; have A := hide a; have B2 := hide b; clear a b))
      go_end0
      exact (unhide A).up ((Wk.ext (unhide X)).trans (unhide B2))

end Go.Proofs.YtlgdjeiendmniaaGreatDoor

namespace Go.Proofs.YtlgdjeiendmniaaGreatDoor
open Go.RowKit Go.Maps

/-- A node at a place that no walk turns. -/
structure NodeAt (w : World) (col : Nat → Nat) (p : PN) (nb no : Nat) : Prop where
  hue : col nb = 0
  lt : nb < w.heap.size
  ex : ∃ a cap, w.cell? ⟨nb, no, none⟩ = some (.int .i64 p.k) ∧ w.cell? ⟨nb, no + 2, none⟩ = some (.string p.s) ∧ w.cell? ⟨nb, no + 4, none⟩ = some (.slice a p.l.length cap) ∧ p.l.length ≤ cap ∧ RepNL w (fun k => col k = 0 ∧ k < w.heap.size) p.l a

theorem NodeAt.on {w w' : World} {col col' : Nat → Nat} {p : PN} {nb no : Nat} (h : NodeAt w col p nb no) (k : Wk col col' w w') : NodeAt w' col' p nb no := by
  obtain ⟨a, cap, h0, h2, h4, hc, hr⟩ := h.ex
  have hk : ∀ o, w'.cell? ⟨nb, o, none⟩ = w.cell? ⟨nb, o, none⟩ := fun o => World.cell?_of_block (w := w) (k.keep nb h.lt h.hue)
  exact ⟨(k.same nb h.lt).trans h.hue, Nat.lt_of_lt_of_le h.lt k.size, a, cap, (hk _).trans h0, (hk _).trans h2, (hk _).trans h4, hc, RepNL.to (fun b hb => ⟨⟨(k.same b hb.2).trans hb.1, Nat.lt_of_lt_of_le hb.2 k.size⟩, k.keep b hb.2 hb.1⟩) _ _ hr⟩

/-- Bounds. -/
structure Bd (st : WK) (n : Nat) : Prop where
  lc : (Lit.int .i64 st.lc).wf = true
  od : st.od.length ≤ n
  bk : st.bk.length ≤ n
  sl : st.sl.length ≤ n
  cl : st.cl.length ≤ n
  ct : st.ct ≤ n
  sm : ∀ x ∈ st.od, small x = true

theorem Bd.mono {st : WK} {n m : Nat} (h : Bd st n) (k : n ≤ m) : Bd st m := ⟨h.lc, Nat.le_trans h.od k, Nat.le_trans h.bk k, Nat.le_trans h.sl k, Nat.le_trans h.cl k, Nat.le_trans h.ct k, h.sm⟩
theorem Bd.fail {st : WK} {n : Nat} (h : Bd st n) (c : Int) : Bd (st.fail c) n := by
  unfold WK.fail
  split
  · exact ⟨h.lc, h.od, h.bk, h.sl, h.cl, h.ct, h.sm⟩
  · exact h
theorem Bd.step {st : WK} {n : Nat} (h : Bd st n) (l : Nat) : Bd (st.step l) n := by
  have h1 : ∀ x, Bd { st with sp := x } n := fun x => ⟨h.lc, h.od, h.bk, h.sl, h.cl, h.ct, h.sm⟩
  unfold WK.step WK.stepTo
  split
  · exact (h1 _).fail _
  · exact h1 _
theorem Bd.use {st : WK} {n : Nat} (h : Bd st n) (s : ByteArray) : Bd (st.use s) (n + 1) := by
  unfold WK.use
  split
  · exact (h.fail _).mono (by omega)
  · exact ⟨h.lc, Nat.le_succ_of_le h.od, Nat.le_succ_of_le h.bk, by simpa using h.sl, Nat.le_succ_of_le h.cl, Nat.le_succ_of_le h.ct, h.sm⟩
theorem Bd.leave {st : WK} {n : Nat} (h : Bd st n) : Bd st.leave n := by
  unfold WK.leave
  split
  · exact h.fail _
  · exact h
theorem Bd.up {st : WK} {n : Nat} (h : Bd st n) : Bd st.up n := ⟨wrap64_wf _, h.od, h.bk, h.sl, h.cl, h.ct, h.sm⟩
theorem Bd.declare {st : WK} {n : Nat} (h : Bd st n) {s : ByteArray} (hs : small s = true) : Bd (st.declare s) (n + 1) := by
  unfold WK.declare
  split
  · exact ((h.fail _).up).mono (by omega)
  · refine Bd.up ⟨h.lc, by simpa [WK.put] using h.od, Nat.le_succ_of_le h.bk, Nat.le_succ_of_le h.sl, Nat.le_succ_of_le h.cl, by simpa [WK.put] using h.ct, fun x hx => ?_⟩
    have hx : x ∈ st.od ++ [s] := hx
    rcases List.mem_append.1 hx with hx | hx
    · exact h.sm x hx
    · rw [List.mem_singleton.1 hx]; exact hs
theorem Bd.letW {st : WK} {n : Nat} (h : Bd st n) {s : ByteArray} (hs : small s = true) : Bd (st.letW s) (n + 1) := by
  have hd := Bd.declare (n := n) (st := { st with sl := [] }) ⟨h.lc, h.od, h.bk, Nat.zero_le _, h.cl, h.ct, h.sm⟩ hs
  have e : ∀ (S : List Int), (WK.declare { st with sl := S } s).sl = S := fun S => by
    unfold WK.declare
    split
    · show (WK.fail _ _).sl = S
      unfold WK.fail
      split <;> rfl
    · rfl
  have e2 : ∀ (S : List Int), WK.declare { st with sl := S } s = { WK.declare { st with sl := [] } s with sl := S } := fun S => by
    unfold WK.declare
    split
    · unfold WK.fail
      split <;> rfl
    · rfl
  unfold WK.letW
  rw [e2]
  exact ⟨hd.lc, hd.od, hd.bk, by simpa using h.sl, hd.cl, hd.ct, hd.sm⟩
theorem Bd.bgn {st : WK} {n : Nat} (h : Bd st n) (p : PN) : Bd (st.bgn p) (n + 1) := by
  have hs := h.step p.s.size
  unfold WK.bgn
  split
  · exact hs.use _
  split
  · exact ⟨hs.lc, Nat.le_succ_of_le hs.od, by simpa [WK.opn] using hs.bk, Nat.le_succ_of_le hs.sl, Nat.le_succ_of_le hs.cl, Nat.le_succ_of_le hs.ct, hs.sm⟩
  split
  · exact ⟨hs.lc, Nat.le_succ_of_le hs.od, Nat.le_succ_of_le hs.bk, Nat.le_succ_of_le hs.sl, Nat.le_succ_of_le hs.cl, Nat.le_succ_of_le hs.ct, hs.sm⟩
  split
  · exact hs.leave.mono (by omega)
  · exact hs.mono (by omega)
theorem Bd.call {st : WK} {n : Nat} (h : Bd st n) (nm : List (ByteArray × Int)) (fs : List PFn) (s : ByteArray) (k : Nat) : Bd (st.call nm fs s k) (n + 1) := by
  unfold WK.call
  split
  · exact (h.fail _).mono (by omega)
  · split
    · exact ⟨h.lc, Nat.le_succ_of_le h.od, Nat.le_succ_of_le h.bk, Nat.le_succ_of_le h.sl, by simpa using h.cl, Nat.le_succ_of_le h.ct, h.sm⟩
    · exact (h.fail _).mono (by omega)
theorem close_some {st st2 : WK} (h : st.close = some st2) : ∃ L m : Nat, st.bk.length = L + 1 ∧ st.bk[L]? = some (m : Int) ∧ m ≤ st.od.length ∧ st2 = st.shut m := by
  unfold WK.close at h
  cases hg : st.bk.getLast? with
  | none => rw [hg] at h; cases h
  | some b =>
    rw [hg] at h
    simp only at h
    split at h
    · rename_i hc
      injection h with h
      rw [List.getLast?_eq_getElem?] at hg
      have hl : 0 < st.bk.length := by
        cases hbk : st.bk with
        | nil => rw [hbk] at hg; simp at hg
        | cons _ _ => simp
      exact ⟨st.bk.length - 1, b.toNat, by omega, by rw [hg]; congr 1; omega, hc.2, h.symm⟩
    · cases h
theorem Bd.fin {st st2 : WK} {n : Nat} (h : Bd st n) {nm : List (ByteArray × Int)} {fs : List PFn} {p : PN} (hs : small p.s = true) (hf : st.fin nm fs p = some st2) : Bd st2 (n + 1) := by
  unfold WK.fin at hf
  split at hf
  · injection hf with hf; subst hf; exact h.letW hs
  split at hf
  · obtain ⟨L, m, h1, h2, h3, rfl⟩ := close_some hf
    refine ⟨h.lc, ?_, ?_, Nat.le_succ_of_le h.sl, Nat.le_succ_of_le h.cl, Nat.le_succ_of_le h.ct, fun x hx => h.sm x (List.mem_of_mem_take hx)⟩
    · have := h.od; simp [WK.shut]; omega
    · have := h.bk; simp [WK.shut]; omega
  split at hf
  · injection hf with hf; subst hf; exact ⟨h.lc, Nat.le_succ_of_le h.od, Nat.le_succ_of_le h.bk, Nat.le_succ_of_le h.sl, Nat.le_succ_of_le h.cl, Nat.le_succ_of_le h.ct, h.sm⟩
  split at hf
  · injection hf with hf; subst hf; exact h.call _ _ _ _
  · injection hf with hf; subst hf; exact h.mono (by omega)

theorem WS.c4 {w : World} {B P M : Nat} {fv : Value} {col : Nat → Nat} {st : WK} (h : WS w B P M fv col st) : w.cell? ⟨B, 4, none⟩ = some (.int .i64 st.lp) ∧ ∀ i, w.frozen? ⟨B, i, none⟩ = false := by
  obtain ⟨lv, oa, ba, sa, ca, oc, bc, sc, cc, hB, hP, hm, h2, h3, h4, h5⟩ := h.ex
  exact ⟨rowC hB 4 rfl, rowF hB⟩

set_option maxHeartbeats 1000000 in
theorem begin_w (B P M : Nat) (fv : Value) (col : Nat → Nat) (st : WK) (p : PN) (nb no n : Nat) (w : World) (h : WS w B P M fv col st) (hN : NodeAt w col p nb no) (hs : small p.s = true) (hb : Bd st n) (hn : n ≤ 9000000) :
    Calls Tryz.prog 83 #[.pointer (some ⟨B, 0, none⟩), .pointer (some ⟨nb, no, none⟩)] w (Walks B P M fv col w (st.bgn p)) := by
  have HN := hide hN
  obtain ⟨_, _, _, m2, _⟩ := hN.ex
  have HS := hide (step_w B P M fv col st p.s nb no w h hs m2)
  have HBD := hide (hb.step p.s.size)
  unfold WK.bgn
  clear h hN m2 hb
  obtain ⟨k, o, s, n', l⟩ := p
  simp only at hs ⊢
  replace HS : Hd (Calls Tryz.prog 119 #[.pointer (some ⟨B, 0, none⟩), .pointer (some ⟨nb, no, none⟩)] w (Walks B P M fv col w (st.step s.size))) := HS
  replace HBD : Hd (Bd (st.step s.size) n) := HBD
  generalize st.step s.size = st1 at *
  by_cases h2 : k = 2
  · subst h2
    rw [if_pos (Or.inl rfl)]
    go_enter Tryz.func83, Tryz.ntmps83
    go_wp2_with (first
      | (go_at_call 119; refine Calls.mono (unhide HS) ?_; rintro e w1 ⟨rfl, col1, a1, b1⟩; have hN1 := (unhide HN).on b1; obtain ⟨na, ncap, n0, n2, n4, -, -⟩ := hN1.ex; have n0 : w1.cell? ⟨nb, no, none⟩ = some (.int .i64 2) := n0; have n2 : w1.cell? ⟨nb, no + 2, none⟩ = some (.string s) := n2; have l4 := a1.c4.1; have l4z := a1.c4.2; have A1 := hide a1; have B1 := hide b1; clear a1 b1 hN1 n4)
      | (go_at_call 120; refine Calls.mono (use_w B P M fv col1 _ s w1 (unhide A1) hs (by have := (unhide HBD).sl; omega)) ?_; rintro e w2 ⟨rfl, col2, a, b⟩; have A := hide a; have B2 := hide b; clear a b))
    go_end0
    exact (unhide A).up ((unhide B1).trans (unhide B2))
  by_cases h19 : k = 19
  · subst h19
    rw [if_pos (Or.inr rfl)]
    go_enter Tryz.func83, Tryz.ntmps83
    go_wp2_with (first
      | (go_at_call 119; refine Calls.mono (unhide HS) ?_; rintro e w1 ⟨rfl, col1, a1, b1⟩; have hN1 := (unhide HN).on b1; obtain ⟨na, ncap, n0, n2, n4, -, -⟩ := hN1.ex; have n0 : w1.cell? ⟨nb, no, none⟩ = some (.int .i64 19) := n0; have n2 : w1.cell? ⟨nb, no + 2, none⟩ = some (.string s) := n2; have l4 := a1.c4.1; have l4z := a1.c4.2; have A1 := hide a1; have B1 := hide b1; clear a1 b1 hN1 n4)
      | (go_at_call 120; refine Calls.mono (use_w B P M fv col1 _ s w1 (unhide A1) hs (by have := (unhide HBD).sl; omega)) ?_; rintro e w2 ⟨rfl, col2, a, b⟩; have A := hide a; have B2 := hide b; clear a b))
    go_end0
    exact (unhide A).up ((unhide B1).trans (unhide B2))
  rw [if_neg (by rintro (h | h) <;> contradiction)]
  have e2 : (k == 2) = false := by simpa using h2
  have e19 : (k == 19) = false := by simpa using h19
  
  by_cases h10 : k = 10
  · subst h10
    rw [if_pos rfl]
    go_enter Tryz.func83, Tryz.ntmps83
    go_wp2_with (first
      | (go_at_call 119; refine Calls.mono (unhide HS) ?_; rintro e w1 ⟨rfl, col1, a1, b1⟩; have hN1 := (unhide HN).on b1; obtain ⟨na, ncap, n0, n2, n4, -, -⟩ := hN1.ex; have n0 : w1.cell? ⟨nb, no, none⟩ = some (.int .i64 10) := n0; have n2 : w1.cell? ⟨nb, no + 2, none⟩ = some (.string s) := n2; have l4 := a1.c4.1; have l4z := a1.c4.2; have A1 := hide a1; have B1 := hide b1; clear a1 b1 hN1 n4)
      | (go_at_call 121; refine Calls.mono (open_w B P M fv col1 _ w1 (unhide A1) (by have := (unhide HBD).bk; omega)) ?_; rintro e w2 ⟨rfl, col2, a, b⟩; have A := hide a; have B2 := hide b; clear a b))
    go_end0
    exact (unhide A).up ((unhide B1).trans (unhide B2))
  rw [if_neg h10]
  have e10 : (k == 10) = false := by simpa using h10
  
  by_cases h4 : k = 4
  · subst h4
    rw [if_pos rfl]
    go_enter Tryz.func83, Tryz.ntmps83
    go_wp2_with (first
      | (go_at_call 119; refine Calls.mono (unhide HS) ?_; rintro e w1 ⟨rfl, col1, a1, b1⟩; have hN1 := (unhide HN).on b1; obtain ⟨na, ncap, n0, n2, n4, -, -⟩ := hN1.ex; have n0 : w1.cell? ⟨nb, no, none⟩ = some (.int .i64 4) := n0; have n2 : w1.cell? ⟨nb, no + 2, none⟩ = some (.string s) := n2; have l4 := a1.c4.1; have l4z := a1.c4.2; have A1 := hide a1; have B1 := hide b1; clear a1 b1 hN1 n4))
    go_end0
    have hU := (unhide A1).setLp (wrap64 (st1.lp + 1))
    exact hU.1.up ((unhide B1).trans hU.2)
  rw [if_neg h4]
  have e4 : (k == 4) = false := by simpa using h4
  
  by_cases h5 : k = 5
  · subst h5
    rw [if_pos (Or.inl rfl)]
    go_enter Tryz.func83, Tryz.ntmps83
    go_wp2_with (first
      | (go_at_call 119; refine Calls.mono (unhide HS) ?_; rintro e w1 ⟨rfl, col1, a1, b1⟩; have hN1 := (unhide HN).on b1; obtain ⟨na, ncap, n0, n2, n4, -, -⟩ := hN1.ex; have n0 : w1.cell? ⟨nb, no, none⟩ = some (.int .i64 5) := n0; have n2 : w1.cell? ⟨nb, no + 2, none⟩ = some (.string s) := n2; have l4 := a1.c4.1; have l4z := a1.c4.2; have A1 := hide a1; have B1 := hide b1; clear a1 b1 hN1 n4)
      | (go_at_call 122; refine Calls.mono (leave_w B P M fv col1 _ w1 (unhide A1)) ?_; rintro e w2 ⟨rfl, col2, a, b⟩; have A := hide a; have B2 := hide b; clear a b))
    go_end0
    exact (unhide A).up ((unhide B1).trans (unhide B2))
  by_cases h6 : k = 6
  · subst h6
    rw [if_pos (Or.inr rfl)]
    go_enter Tryz.func83, Tryz.ntmps83
    go_wp2_with (first
      | (go_at_call 119; refine Calls.mono (unhide HS) ?_; rintro e w1 ⟨rfl, col1, a1, b1⟩; have hN1 := (unhide HN).on b1; obtain ⟨na, ncap, n0, n2, n4, -, -⟩ := hN1.ex; have n0 : w1.cell? ⟨nb, no, none⟩ = some (.int .i64 6) := n0; have n2 : w1.cell? ⟨nb, no + 2, none⟩ = some (.string s) := n2; have l4 := a1.c4.1; have l4z := a1.c4.2; have A1 := hide a1; have B1 := hide b1; clear a1 b1 hN1 n4)
      | (go_at_call 122; refine Calls.mono (leave_w B P M fv col1 _ w1 (unhide A1)) ?_; rintro e w2 ⟨rfl, col2, a, b⟩; have A := hide a; have B2 := hide b; clear a b))
    go_end0
    exact (unhide A).up ((unhide B1).trans (unhide B2))
  rw [if_neg (by rintro (h | h) <;> contradiction)]
  have e5 : (k == 5) = false := by simpa using h5
  have e6 : (k == 6) = false := by simpa using h6
  
  go_enter Tryz.func83, Tryz.ntmps83
  go_wp2_with (first
    | (go_at_call 119; refine Calls.mono (unhide HS) ?_; rintro e w1 ⟨rfl, col1, a1, b1⟩; have hN1 := (unhide HN).on b1; obtain ⟨na, ncap, n0, n2, n4, -, -⟩ := hN1.ex; have n0 : w1.cell? ⟨nb, no, none⟩ = some (.int .i64 k) := n0; have n2 : w1.cell? ⟨nb, no + 2, none⟩ = some (.string s) := n2; have l4 := a1.c4.1; have l4z := a1.c4.2; have A1 := hide a1; have B1 := hide b1; clear a1 b1 hN1 n4))
  go_end0
  exact (unhide A1).up (unhide B1)

end Go.Proofs.YtlgdjeiendmniaaGreatDoor

namespace Go.Proofs.YtlgdjeiendmniaaGreatDoor
open Go.RowKit Go.Maps

theorem enterCall (v u x : Value) (w : World) : (callFunc 125 #[v, u, x]).run Tryz.prog w = .ok (.enter 125 #[v, u, x]) w := by kernel_rfl

set_option maxHeartbeats 1000000 in
theorem end_w (B P M : Nat) (fv : Value) (col : Nat → Nat) (st : WK) (nm : List (ByteArray × Int)) (fs : List PFn) (p : PN) (nb no n : Nat) (w : World) (st2 : WK) (h : WS w B P M fv col st) (hC : Ctx w col M fv nm fs) (hN : NodeAt w col p nb no) (hs : small p.s = true) (hb : Bd st n) (hn : n ≤ 9000000) (hf : st.fin nm fs p = some st2) :
    Calls Tryz.prog 84 #[.pointer (some ⟨B, 0, none⟩), .pointer (some ⟨nb, no, none⟩)] w (Walks B P M fv col w st2) := by
  obtain ⟨na, ncap, n0, n2, n4, -, -⟩ := hN.ex
  have l4 := h.c4.1
  have l4z := h.c4.2
  have HS := hide h
  unfold WK.fin at hf
  clear hN
  obtain ⟨k, o, s, n', l⟩ := p
  simp only at hs hf n0 n2 n4
  by_cases h1 : k = 1
  · subst h1
    rw [if_pos rfl] at hf
    injection hf with hf
    have HL := hide (let_w B P M fv col st s w h hs hb.lc (by have := hb.ct; omega) (by have := hb.od; omega) (by have := hb.sl; omega))
    subst hf
    clear h hC hb
    go_enter Tryz.func84, Tryz.ntmps84
    go_wp2_with ((go_at_call 123; refine Calls.mono (unhide HL) ?_; rintro e w2 ⟨rfl, col2, a, b⟩; have A := hide a; have B2 := hide b; clear a b))
    go_end0
    exact (unhide A).up (unhide B2)
  rw [if_neg h1] at hf
  have e1 : (k == 1) = false := by simpa using h1
  
  by_cases h10 : k = 10
  · subst h10
    rw [if_pos rfl] at hf
    obtain ⟨L, m, hL, hl, hm, hst⟩ := close_some hf
    have HC := hide (close_w B P M fv col st L m w h hL (by have := hb.bk; omega) hl hm (by have := hb.od; omega) hb.sm)
    subst hst
    clear h hC hb hf
    go_enter Tryz.func84, Tryz.ntmps84
    go_wp2_with ((go_at_call 124; refine Calls.mono (unhide HC) ?_; rintro e w2 ⟨rfl, col2, a, b⟩; have A := hide a; have B2 := hide b; clear a b))
    go_end0
    exact (unhide A).up (unhide B2)
  rw [if_neg h10] at hf
  have e10 : (k == 10) = false := by simpa using h10
  
  by_cases h4 : k = 4
  · subst h4
    rw [if_pos rfl] at hf
    injection hf with hf
    subst hf
    clear h hC hb
    go_enter Tryz.func84, Tryz.ntmps84
    go_wp2_with fail
    go_end0
    have hU := (unhide HS).setLp (wrap64 (st.lp - 1))
    exact hU.1.up hU.2
  rw [if_neg h4] at hf
  have e4 : (k == 4) = false := by simpa using h4
  
  by_cases h20 : k = 20
  · subst h20
    rw [if_pos rfl] at hf
    injection hf with hf
    have HK := hide (call_w B P M fv col st nm fs s l.length w.drew (h.ext (Ext.drew (Ext.refl _))) (hC.on (Wk.ext (Ext.drew (Ext.refl _)))) hs (by have := hb.cl; omega))
    subst hf
    clear h hC hb
    go_enter Tryz.func84, Tryz.ntmps84
    go_wp2_with fail
    refine wp_nrm ?_
    first | skip; go_region_law (refine step_call_three rfl 125 (.tmp 33) (.tmp 37) (.tmp 42) 148 9 3 rfl _ _ _ (by simp [Act.eval, Act.put]) (by simp [Act.eval, Act.put]) (by simp [Act.eval, Act.put]) (enterCall _ _ _ _) (Calls.mono (unhide HK) ?_); rintro e w1 ⟨rfl, col2, a, b⟩; have A := hide a; have B2 := hide b; clear a b; refine ⟨_, rfl, ?_⟩) | fail
    all_goals
      simp only [Nrm]
      go_wp2_with fail
      go_end0
      exact (unhide A).up (unhide B2).drewTo
  rw [if_neg h20] at hf
  have e20 : (k == 20) = false := by simpa using h20
  
  injection hf with hf
  subst hf
  clear h hC hb
  go_enter Tryz.func84, Tryz.ntmps84
  go_wp2_with fail
  go_end0
  exact (unhide HS).up (Wk.refl _ _)

end Go.Proofs.YtlgdjeiendmniaaGreatDoor
