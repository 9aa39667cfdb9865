/- The package's Assign answers what the document's way gives. -/
import Derived.Test.YtjopfpchbakggaaCoAs
set_option linter.unusedSimpArgs false
set_option linter.unusedVariables false
set_option maxRecDepth 10000
namespace Go.Proofs.Ytjopfpchbakggaa
open Go.RowKit

theorem k_infoPC : ∃ i0, Try.prog.info? 29 = some i0 ∧ i0.zero = some (.agg #[.int .i64 0, .int .i64 0, .int .i64 0]) ∧ i0.size = 3 ∧ i0.bytes = 24 := by
  have h : (Try.prog.info? 29).map (fun i => (i.zero, i.size, i.bytes)) = some (some (.agg #[.int .i64 0, .int .i64 0, .int .i64 0]), 3, 24) := by kernel_rfl
  cases hi : Try.prog.info? 29 with
  | none => rw [hi] at h; cases h
  | some i =>
    rw [hi] at h
    simp at h
    exact ⟨i, rfl, h.1, h.2.1, h.2.2⟩
theorem make_cpl (n : Nat) (hn : n ≤ 1000000) (w : World) : (Instr.makeSlice 25 (.int .i64 (n : Int)) (.int .i64 (n : Int))).run Try.prog w = .ok (.slice (some ⟨w.heap.size, 0, none⟩) n n) (w.alloc (.cells (tpV (List.replicate n (0, 0, 0))).toArray 29)) := by
  obtain ⟨i0, hi, hz, hs, hb⟩ := k_infoPC
  have h := run_make (P := Try.prog) w 25 29 i0 (.agg #[.int .i64 0, .int .i64 0, .int .i64 0]) Try.underlying25 hi hz .i64 .i64 n n (by omega) (by omega) (by rw [hb]; omega) (by omega)
  rw [hs] at h
  simp only [Int.toNat_natCast] at h
  rw [h, show (Value.agg #[Value.int .i64 0, Value.int .i64 0, Value.int .i64 0]).cells = #[Value.int .i64 0, Value.int .i64 0, Value.int .i64 0] from rfl, made3]
theorem Bk.lo {w : World} {lo lo' : Nat} {v : Value} {l : List Nat} (h : Bk w lo v l) (k : lo' ≤ lo) : Bk w lo' v l := by
  obtain ⟨a, c, rfl, h1, h2, h3⟩ := h
  refine ⟨a, c, rfl, h1, h2, ?_⟩
  rcases h3 with h3 | ⟨B, off, ys, rfl, hb, r⟩
  · exact Or.inl h3
  · exact Or.inr ⟨B, off, ys, rfl, Nat.le_trans k hb, r⟩
theorem wp_cut5 {P : Program} {x0 x1 x2 x3 x4 y : Code} {Q : Exit → Act → World → Prop} {a : Act} {w : World} (M : Act → World → Prop) (h1 : x0.wp P (Exit.then (x1.wp P (Exit.then (x2.wp P (Exit.then (x3.wp P (Exit.then (x4.wp P (NrmM M)) (NrmM M))) (NrmM M))) (NrmM M))) (NrmM M)) a w) (h2 : ∀ a w, M a w → y.wp P Q a w) : (x0.seq (x1.seq (x2.seq (x3.seq (x4.seq y))))).wp P Q a w := by
  refine wp_seq (Code.wp_mono ?_ h1)
  intro e a1 w1 h
  cases e <;> first | exact h.elim | skip
  refine wp_seq (Code.wp_mono ?_ h)
  intro e a2 w2 h
  cases e <;> first | exact h.elim | skip
  refine wp_seq (Code.wp_mono ?_ h)
  intro e a3 w3 h
  cases e <;> first | exact h.elim | skip
  refine wp_seq (Code.wp_mono ?_ h)
  intro e a4 w4 h
  cases e <;> first | exact h.elim | skip
  refine wp_seq (Code.wp_mono ?_ h)
  intro e a5 w5 h
  cases e <;> first | exact h.elim | exact h2 _ _ h
theorem fr84 (T : Array Value) (h : T.size = 84) : ∃ u : Nat → Value, T = #[u 0, u 1, u 2, u 3, u 4, u 5, u 6, u 7, u 8, u 9, u 10, u 11, u 12, u 13, u 14, u 15, u 16, u 17, u 18, u 19, u 20, u 21, u 22, u 23, u 24, u 25, u 26, u 27, u 28, u 29, u 30, u 31, u 32, u 33, u 34, u 35, u 36, u 37, u 38, u 39, u 40, u 41, u 42, u 43, u 44, u 45, u 46, u 47, u 48, u 49, u 50, u 51, u 52, u 53, u 54, u 55, u 56, u 57, u 58, u 59, u 60, u 61, u 62, u 63, u 64, u 65, u 66, u 67, u 68, u 69, u 70, u 71, u 72, u 73, u 74, u 75, u 76, u 77, u 78, u 79, u 80, u 81, u 82, u 83] := by
  refine ⟨fun i => T.getD i undef, ?_⟩
  have e : T = ((List.range T.size).map (fun i => T.getD i undef)).toArray := by
    apply Array.ext
    · simp
    · intro i h1 h2
      simp [h1]
  rw [h] at e
  exact e

theorem set_selfC {α : Type} {l : List α} {k : Nat} {x : α} (h : l[k]? = some x) : l.set k x = l := by
  apply List.ext_getElem?
  intro j
  by_cases e : j = k
  · subst e
    rw [List.getElem?_set_self (List.getElem?_eq_some_iff.1 h).1, h]
  · rw [List.getElem?_set_ne (fun h => e h.symm)]
theorem wp_midB {P : Program} {c : Code} {b : Nat} {Q : Exit → Act → World → Prop} {a : Act} {w : World} (M : Act → World → Prop) (h1 : c.wp P (Exit.inBlock b (NrmM M)) a w) (h2 : ∀ a w, M a w → Q .normal a w) : c.wp P (Exit.inBlock b Q) a w := by
  refine Code.wp_mono (fun e a' w' hq => ?_) h1
  cases e with
  | normal => exact h2 _ _ hq
  | exit id =>
    unfold Exit.inBlock at hq ⊢
    simp only at hq ⊢
    split
    · rename_i h; rw [if_pos h] at hq; exact h2 _ _ hq
    · rename_i h; rw [if_neg h] at hq; exact hq.elim
  | _ => exact hq.elim
theorem crf_row {w w' : World} {F b : Nat} {o : Option Nat} {t : TypeId} {xs : List Value} (k : CrF w w' F o) (h : Row w b t xs) (h1 : b ≠ F) (h2 : ∀ c, o = some c → b ≠ c) : Row w' b t xs :=
  (k.block b (k_lt h) h1 (fun e => h2 b e.symm rfl)).trans h

set_option maxHeartbeats 1500000 in
theorem cas_w : CasIs := by
  intro L n a cap w hL hG hn0 hn hr
  obtain ⟨m, hm⟩ : ∃ m, m = gM L n.toNat := ⟨_, rfl⟩
  have hm2 : m = max 1 (min n.toNat L.length) := hm
  have hmb : m ≤ 1000 := by omega
  obtain ⟨W1, hW1⟩ : ∃ W1, W1 = w.alloc (.cells #[.slice a L.length cap] 22) := ⟨_, rfl⟩
  obtain ⟨W2, hW2⟩ : ∃ W2, W2 = W1.alloc (.cells (tpV (List.replicate L.length (0, 0, 0))).toArray 29) := ⟨_, rfl⟩
  have hs1 : W1.heap.size = w.heap.size + 1 := by rw [hW1]; simp
  have hs2 : W2.heap.size = w.heap.size + 2 := by rw [hW2]; simp [hs1]
  have hmk := make_cpl L.length (by omega) W1
  rw [← hW2, hs1] at hmk
  have X1 : Ext w W1 := by rw [hW1]; exact Ext.alloc _ _
  have X2 : Ext W1 W2 := by rw [hW2]; exact Ext.alloc _ _
  have rB : Row W2 w.heap.size 22 [.slice a L.length cap] := by
    refine Row.on ?_ X2
    rw [hW1]
    exact Row.new _ _ _
  have rP : Row W2 (w.heap.size + 1) 29 (tpV (plT L [])) := by
    rw [hW2, ← hs1, plT_nil]
    exact Row.new _ _ _
  rw [hW1] at hmk
  have HMK := hide hmk
  have HX := hide (X1.trans X2)
  have RB := hide rB
  have RP := hide rP
  have HS := hide hs2
  have zb := rB.cell 0 rfl
  have HM := hide hm2
  have HM0 := hide hm
  have HF := hide (fun (x : Int) (hx : x = (m : Int)) (W : World) => (show _ from by rw [hx]; exact firstOf_w m W (by omega) : Calls Try.prog 12 #[.int .i64 x] W fun e w' => ∃ v, e = .returned (.agg #[v, .func (.func 15) #[] #[]]) ∧ Bk w' W.heap.size v (List.range m) ∧ Ext W w'))
  have HG := hide hG
  have HR := hide hr
  clear hmk hW1 hW2 X1 X2 rB rP hs1 hs2 hm hm2 hG hr
  go_enter Try.func6, Try.ntmps6
  refine wp_cut5 (fun a' w' => a'.defers = [] ∧ a'.tmps.size = 84 ∧ a'.tmps[2]? = some (.pointer (some ⟨w.heap.size, 0, none⟩)) ∧ a'.tmps[5]? = some (.slice (some ⟨w.heap.size + 1, 0, none⟩) L.length L.length) ∧ a'.tmps[8]? = some (.int .i64 0) ∧ ∃ FA FB v1, a'.tmps[6]? = some (.pointer (some ⟨FA, 0, none⟩)) ∧ a'.tmps[7]? = some (.pointer (some ⟨FB, 0, none⟩)) ∧ AsS w w' (.slice a L.length cap) w.heap.size (w.heap.size + 1) FA FB (plT L []) (List.range m) [] v1 (.slice none 0 0)) ?_ ?_
  · go_wp2_with fail
    rw [unhide HMK]
    simp only [Result.andThen]
    go_wp2_with (go_at_call 12; refine Calls.mono (unhide HF _ (by have := unhide HM; omega) _) ?_; rintro e w3 ⟨v, rfl, hb, hx⟩
                 obtain ⟨p', q', rfl⟩ : ∃ a c, v = .slice a (List.range m).length c := by (obtain ⟨a, c, e, _⟩ := hb; exact ⟨a, c, e⟩)
                 have HB := hide hb
                 have X3 := hide hx
                 clear hb hx)
    have hb := unhide HB
    rw [List.length_range] at hb
    have x3 := (unhide HX).trans (unhide X3)
    have xa := Ext.alloc w3 (Obj.cells #[Value.slice p' m q', fA] 44)
    have xb := Ext.alloc (w3.alloc (Obj.cells #[Value.slice p' m q', fA] 44)) (Obj.cells #[Value.slice none 0 0, fB w.heap.size] 44)
    have hle := x3.size
    refine ⟨rfl, rfl, rfl, rfl, rfl, _, _, Value.slice p' m q', rfl, rfl, ⟨x3.trans (xa.trans xb), Nat.le_refl _, Nat.le_succ _, (unhide RB).on ((unhide X3).trans (xa.trans xb)), (unhide RP).on ((unhide X3).trans (xa.trans xb)), ⟨hle, ?_, ((hb.lo ?_).ext xa).ext xb⟩, ⟨Nat.le_trans hle (Nat.le_succ _), ?_, Bk.nil _ _⟩, Nat.ne_of_lt (Nat.lt_succ_self _), fun b h1 h2 => by cases h2⟩⟩
    · exact Row.on (Row.new w3 [Value.slice p' m q', fA] _) xb
    · have := (unhide HX).size
      exact this
    · have := Row.new (w3.alloc (Obj.cells #[Value.slice p' m q', fA] 44)) [Value.slice none 0 0, fB w.heap.size] 44
      rw [World.size_alloc] at this
      exact this
  · rintro ⟨TT, d⟩ wr ⟨hd, hT, h2, h5, h8, FA, FB, v1, h6, h7, hA⟩
    obtain rfl : d = [] := hd
    obtain ⟨u, rfl⟩ := fr84 TT hT
    have e2 : u 2 = .pointer (some ⟨w.heap.size, 0, none⟩) := Option.some.inj h2
    have e5 : u 5 = .slice (some ⟨w.heap.size + 1, 0, none⟩) L.length L.length := Option.some.inj h5
    have e8 : u 8 = .int .i64 0 := Option.some.inj h8
    have e6 : u 6 = .pointer (some ⟨FA, 0, none⟩) := Option.some.inj h6
    have e7 : u 7 = .pointer (some ⟨FB, 0, none⟩) := Option.some.inj h7
    rw [e2, e5, e8, e6, e7]
    have zb := hA.rb.cell 0 rfl
    have S0 : Hd (∃ v1 v2, AsS w wr (.slice a L.length cap) w.heap.size (w.heap.size + 1) FA FB (plT L (gvUp L m 0).o) (gvUp L m 0).fr (gvUp L m 0).hd v1 v2) := ⟨_, _, hA⟩
    clear e2 e5 e8 e6 e7 h2 h5 h8 h6 h7 hT hA HMK HX RB RP HS HF
    go_wp2_with fail
    go_loopw [8, 25] (fun t8 t25 wq => ∃ (i : Nat), t25 = .int .i64 i ∧ t8 = .int .i64 ((gvUp L m i).n : Int) ∧ i ≤ L.length ∧ Hd (∃ v1 v2, AsS w wq (.slice a L.length cap) w.heap.size (w.heap.size + 1) FA FB (plT L (gvUp L m i).o) (gvUp L m i).fr (gvUp L m i).hd v1 v2)) (fun _ t25 _ => L.length - (intOf t25).toNat)
    case atStart => exact ⟨0, rfl, rfl, by omega, S0⟩
    case round =>
      clear S0
      obtain ⟨i, rfl, rfl, hi, hS⟩ := hrel
      by_cases hlt : i < L.length
      · have hlt2 : (i : Int) < (L.length : Int) := by omega
        obtain ⟨x1, x2, hA⟩ := unhide hS
        have hrel := gvUp_rel (unhide HG) n.toNat i hi
        rw [← unhide HM0] at hrel
        have hinv := cUp_inv (unhide HG).ok (min (max n.toNat 1) (L.length + 1)) i hi
        have hpop := hrel.pop hinv
        have hol : (gvUp L m i).o.length = i := by rw [hrel.eo]; exact hinv.ol
        have hst : gvUp L m (i + 1) = gvStep L i (gvUp L m i) := rfl
        have hnn : (gvUp L m i).n ≤ L.length := by
          rw [hrel.en, ← hinv.g]
          refine Nat.le_trans (List.length_filter_le _ _) ?_
          rw [hinv.ol]
          omega
        obtain ⟨g, hg⟩ : ∃ g, g = gvUp L m i := ⟨_, rfl⟩
        rw [← hg] at hA hpop hol hst hnn ⊢
        clear hS hrel hinv hg
        have HSt := hide hst
        have HPop := hide hpop
        have HOl := hide hol
        have hrp := (unhide HR).ext hA.X
        obtain ⟨lb, lo, rfl, _, l0⟩ := hrp.at (tpI_at (ivT_at hlt)).1
        obtain ⟨lb', lo', e1, _, l1⟩ := hrp.at (tpI_at (ivT_at hlt)).2.1
        injection e1 with e1; injection e1 with e1 e2; subst e1 e2
        obtain ⟨lb', lo', e1, _, l2⟩ := hrp.at (tpI_at (ivT_at hlt)).2.2
        injection e1 with e1; injection e1 with e1 e2; subst e1 e2
        simp only [← Nat.add_assoc] at l0 l1 l2
        have hTi : i < (plT L g.o).length := by rw [plT_len]; exact hlt
        obtain ⟨ti, hti⟩ : ∃ ti, (plT L g.o)[i]? = some ti := ⟨_, List.getElem?_eq_getElem hTi⟩
        obtain ⟨o0, o1, o2⟩ := tpV_at hti
        have c0 := fun ob => (Ext.alloc wr ob).cell (hA.rP.cell _ o0)
        have c1 := fun ob => (Ext.alloc wr ob).cell (hA.rP.cell _ o1)
        have c2 := fun ob => (Ext.alloc wr ob).cell (hA.rP.cell _ o2)
        have f0 := fun ob j => k_rowF (hA.rP.on (Ext.alloc wr ob)) j
        have HA := hide hA
        clear hrp o0 o1 o2 hA hst hpop hol
        go_wp2_with fail
        obtain ⟨W3, hW3⟩ : ∃ W3, W3 = ((((wr.alloc (Obj.cells #[Value.int IntKind.i64 (ivA L i).r, Value.int IntKind.i64 (ivA L i).s, Value.int IntKind.i64 (ivA L i).e] 24)).setCell { block := w.heap.size + 1, off := i * 3 } (Value.int IntKind.i64 (ivA L i).r)).setCell { block := w.heap.size + 1, off := i * 3 + 1 } (Value.int IntKind.i64 (-1))).setCell { block := w.heap.size + 1, off := i * 3 + 2 } (Value.int IntKind.i64 (-1))) := ⟨_, rfl⟩
        rw [← hW3]
        obtain ⟨T1, hT1⟩ : ∃ T1, T1 = (plT L g.o).set i ((ivA L i).r, -1, -1) := ⟨_, rfl⟩
        have hS1 : AsS w W3 (.slice (some ⟨lb, lo, none⟩) L.length cap) w.heap.size (w.heap.size + 1) FA FB T1 g.fr g.hd x1 x2 := by
          rw [hW3, hT1]
          exact ((unhide HA).ext (Ext.alloc _ _)).set3 hTi _ _ _
        obtain ⟨ib, hib⟩ : ∃ ib, ib = wr.heap.size := ⟨_, rfl⟩
        have hI1 : Row W3 ib 24 [.int .i64 (ivA L i).r, .int .i64 (ivA L i).s, .int .i64 (ivA L i).e] := by
          have hne : wr.heap.size ≠ w.heap.size + 1 := fun e => by have := k_lt (unhide HA).rP; omega
          rw [hW3, hib]
          exact (((Row.new wr [.int .i64 (ivA L i).r, .int .i64 (ivA L i).s, .int .i64 (ivA L i).e] 24).other hne _ _).other hne _ _).other hne _ _
        rw [← hib]
        have HT1 := hide hT1
        have S1 := hide hS1
        have I1 := hide hI1
        clear hW3 hT1 hS1 hI1 hib c0 c1 c2 f0 l0 l1 l2 hti hTi HA
        obtain ⟨PQ, hPQ⟩ : ∃ PQ, PQ = gPop L g.o (ivA L i).s g.hd g.fr := ⟨_, rfl⟩
        have HPQ := hide hPQ
        clear hPQ
        refine wp_midB (fun a' w' => a'.defers = [] ∧ a'.tmps.size = 84 ∧ a'.tmps[2]? = some (.pointer (some ⟨w.heap.size, 0, none⟩)) ∧ a'.tmps[5]? = some (.slice (some ⟨w.heap.size + 1, 0, none⟩) L.length L.length) ∧ a'.tmps[6]? = some (.pointer (some ⟨FA, 0, none⟩)) ∧ a'.tmps[7]? = some (.pointer (some ⟨FB, 0, none⟩)) ∧ a'.tmps[8]? = some (.int .i64 (g.n : Int)) ∧ a'.tmps[9]? = some (.int .i64 (i : Int)) ∧ a'.tmps[10]? = some (.pointer (some ⟨ib, 0, none⟩)) ∧ a'.tmps[23]? = some (.slice (some ⟨lb, lo, none⟩) L.length cap) ∧ a'.tmps[24]? = some (.int .i64 (L.length : Int)) ∧ a'.tmps[25]? = some (.int .i64 (i : Int)) ∧ (∀ j : Nat, j ∈ [0, 1, 3, 4, 12, 13, 14, 15, 16, 17, 18, 19, 20, 21, 22, 83] → a'.tmps[j]? = some (u j)) ∧ Hd (∃ v1 v2, AsS w w' (.slice (some ⟨lb, lo, none⟩) L.length cap) w.heap.size (w.heap.size + 1) FA FB T1 PQ.2 PQ.1 v1 v2)) ?_ ?_
        · go_loopg [46] g.hd.length (fun kx s46 wq => ∃ hd' fr' : List Nat, hd'.length ≤ kx ∧ Hd (PQ = gPop L g.o (ivA L i).s hd' fr') ∧ Hd (PopOk L i m g.o hd' fr') ∧ Hd (∃ v1 v2, AsS w wq (.slice (some ⟨lb, lo, none⟩) L.length cap) w.heap.size (w.heap.size + 1) FA FB T1 fr' hd' v1 v2) ∧ Hd (Row wq ib 24 [.int .i64 (ivA L i).r, .int .i64 (ivA L i).s, .int .i64 (ivA L i).e]))
          case atStart => exact ⟨g.hd, g.fr, Nat.le_refl _, HPQ, HPop, ⟨_, _, unhide S1⟩, I1⟩
          case round =>
            clear S1 I1
            obtain ⟨hd', fr', hkx, HE, HP, hS2, I2⟩ := hrel
            obtain ⟨v1, v2, hA⟩ := unhide hS2
            clear hS2
            have hne : Nonempty (RGw wr) := ⟨⟨wr, Ext.refl _⟩⟩
            have HA := hide hA
            cases hd' with
            | nil =>
              have H16 := hide (fun y : RGw wr => (some_w y.w w.heap.size FB (fB w.heap.size) v2 [] (hA.B.ext y.h)).mono (fun e w' (h : e = .returned (.bool (decide (0 < ([] : List Nat).length))) ∧ w' = y.w) => (⟨h.1, by rw [h.2]; exact Ext.refl _⟩ : e = .returned (.bool false) ∧ Ext y.w w')))
              clear hA
              go_wp2_with fail
              refine wp_region_rx (W := wr) (by kernel_rfl) (by kernel_rfl) (Ext.refl _) ?_
              repeat (go_big_quiet_step ((go_at_call 16; exact Calls.rx_of _ _ (unhide H16 _))))
              refine wpQuiet_nil ?_
              rintro w4 ⟨⟨_, hx4⟩, rfl⟩
              have A4 := hide ((unhide HA).ext hx4)
              have EQ : PQ = ([], fr') := by have h := unhide HE; rw [gPop] at h; exact h
              clear hx4
              go_wp2_with fail
              refine ⟨rfl, rfl, rfl, rfl, rfl, rfl, rfl, rfl, rfl, rfl, rfl, rfl, fun j hj => ?_, _, _, by rw [EQ]; exact unhide A4⟩
              simp only [List.mem_cons, List.not_mem_nil, or_false] at hj
              rcases hj with rfl | rfl | rfl | rfl | rfl | rfl | rfl | rfl | rfl | rfl | rfl | rfl | rfl | rfl | rfl | rfl <;> rfl
            | cons k r =>
              have hkI := (unhide HP).hk k (by simp)
              have hkl : k < L.length := by omega
              have hk2 : (k : Int) < (L.length : Int) := by omega
              have hrp := (unhide HR).ext hA.X
              obtain ⟨lb', lo', e1, _, l2⟩ := hrp.at (tpI_at (ivT_at hkl)).2.2
              injection e1 with e1; injection e1 with e1 e2; subst e1 e2
              simp only [← Nat.add_assoc] at l2
              have H16 := hide (fun y : RGw wr => (some_w y.w w.heap.size FB (fB w.heap.size) v2 (k :: r) (hA.B.ext y.h)).mono (fun e w' (h : e = .returned (.bool (decide (0 < (k :: r).length))) ∧ w' = y.w) => (⟨by rw [h.1]; simp, by rw [h.2]; exact Ext.refl _⟩ : e = .returned (.bool true) ∧ Ext y.w w')))
              have H17 := hide (fun y : RGw wr => (first_w y.w w.heap.size FB (fB w.heap.size) v2 k r (hA.B.ext y.h)).mono (fun e w' (h : e = .returned (.int .i64 (k : Int)) ∧ w' = y.w) => (⟨h.1, by rw [h.2]; exact Ext.refl _⟩ : e = .returned (.int .i64 (k : Int)) ∧ Ext y.w w')))
              have z0 := hA.rb.cell 0 rfl
              have z1 := (unhide I2).cell 1 rfl
              have vz := fun y : RGw wr => y.h.cell z0
              have vl := fun y : RGw wr => y.h.cell l2
              have vi := fun y : RGw wr => y.h.cell z1
              have hpo : ∃ p, g.o[k]? = some (some p, none) := hkI.2
              have HPo := hide hpo
              have HKi := hide hkI.1
              clear hA hrp z0 z1 l2 hkI hpo
              by_cases hes : (ivA L k).e < (ivA L i).s
              · have HE2 : Hd (PQ = gPop L g.o (ivA L i).s r (fIns (pO g.o k) fr')) := by
                  have h := unhide HE
                  rw [gPop, if_pos hes] at h
                  exact h
                go_wp2_with fail
                refine wp_region_rx (W := wr) (by kernel_rfl) (by kernel_rfl) (Ext.refl _) ?_
                repeat (go_big_quiet_step (first | (go_at_call 16; exact Calls.rx_of _ _ (unhide H16 _)) | (go_at_call 17; exact Calls.rx_of _ _ (unhide H17 _))))
                refine wpQuiet_nil ?_
                rintro w4 ⟨⟨_, hx4⟩, rfl⟩
                have A4 := hide ((unhide HA).ext hx4)
                have I4 := hide ((unhide I2).on hx4)
                obtain ⟨p, hp⟩ := unhide HPo
                have hpO : pO g.o k = p := by unfold pO; rw [hp]
                have HpO := hide hpO
                have hTk : T1[k]? = some ((ivA L k).r, (p : Int), -1) := by
                  have hki := unhide HKi
                  rw [unhide HT1, List.getElem?_set_ne (by omega), plT_at hkl, hp]
                  rfl
                have HTk := hide hTk
                have H19 := hide (takeFirst_w w4 w.heap.size FB (fB w.heap.size) v2 k r (unhide A4).B)
                have hlen : fr'.length ≤ 100000 := by have := (unhide HP).ln; omega
                have H18 := hide (fun (W : World) (h : CrS W w.heap.size FA fA v1 fr') (hlo : w.heap.size ≤ W.heap.size) => add_w W w.heap.size FA 15 #[] v1 fr' p _ h hlen hlo (cmpFree W fr' p (unhide HP).fs))
                clear hx4 vz vl vi hpO hTk hp hlen
                go_wp2_with (first
                  | (go_at_call 19; refine Calls.mono (unhide H19) ?_; rintro e w5 ⟨rfl, v2', hw5, hB5, ho5⟩
                     have A5 := hide ((unhide A4).turnB hB5 (by rw [hw5]; exact crf_set _ _ _ _) (Or.inl ho5))
                     have I5 := hide (show Row w5 ib 24 [.int .i64 (ivA L i).r, .int .i64 (ivA L i).s, .int .i64 (ivA L i).e] by rw [hw5]; exact (unhide I4).other (row_ne (unhide I4) (unhide A4).B.row (by decide)) _ _)
                     have ck := (unhide A5).rP.cell _ (tpV_at (unhide HTk)).2.1
                     clear hw5 hB5 ho5)
                  | (go_at_call 18; refine Calls.mono (unhide H18 _ (unhide A5).A (unhide A5).X.size) ?_; rintro e w6 ⟨rfl, v1', hA6, hk6, ho6⟩
                     have A6 := hide ((unhide A5).turnA hA6 hk6 ho6)
                     have I6 := hide (crf_row hk6 (unhide I5) (row_ne (unhide I5) (unhide A5).A.row (by decide)) (fun c hc => own_ne (unhide A5).A.bk (unhide I5) (by decide) hc))
                     clear hA6 hk6 ho6))
                go_roundg r.length
                case measure => simp at hkx; omega
                case rel => exact ⟨r, fIns p fr', Nat.le_refl _, by rw [← unhide HpO]; exact HE2, by rw [← unhide HpO]; exact (unhide HP).next, ⟨_, _, unhide A6⟩, I6⟩
              · have EQ : PQ = (k :: r, fr') := by have h := unhide HE; rw [gPop, if_neg hes] at h; exact h
                have EQ2 := hide EQ
                clear EQ
                go_wp2_with fail
                refine wp_region_rx (W := wr) (by kernel_rfl) (by kernel_rfl) (Ext.refl _) ?_
                repeat (go_big_quiet_step (first | (go_at_call 16; exact Calls.rx_of _ _ (unhide H16 _)) | (go_at_call 17; exact Calls.rx_of _ _ (unhide H17 _))))
                refine wpQuiet_nil ?_
                rintro w4 ⟨⟨_, hx4⟩, rfl⟩
                have A4 := hide ((unhide HA).ext hx4)
                clear hx4 vz vl vi
                go_wp2_with fail
                refine ⟨rfl, rfl, rfl, rfl, rfl, rfl, rfl, rfl, rfl, rfl, rfl, rfl, fun j hj => ?_, _, _, by rw [unhide EQ2]; exact unhide A4⟩
                simp only [List.mem_cons, List.not_mem_nil, or_false] at hj
                rcases hj with rfl | rfl | rfl | rfl | rfl | rfl | rfl | rfl | rfl | rfl | rfl | rfl | rfl | rfl | rfl | rfl <;> rfl
        · clear S1 I1
          rintro ⟨TT, d⟩ wq ⟨hd, hT, h2, h5, h6, h7, h8, h9, h10, h23, h24, h25, hU, hS⟩
          obtain rfl : d = [] := hd
          obtain ⟨q, rfl⟩ := fr84 TT hT
          have e2 : q 2 = .pointer (some ⟨w.heap.size, 0, none⟩) := Option.some.inj h2
          have e5 : q 5 = .slice (some ⟨w.heap.size + 1, 0, none⟩) L.length L.length := Option.some.inj h5
          have e6 : q 6 = .pointer (some ⟨FA, 0, none⟩) := Option.some.inj h6
          have e7 : q 7 = .pointer (some ⟨FB, 0, none⟩) := Option.some.inj h7
          have e8 : q 8 = .int .i64 (g.n : Int) := Option.some.inj h8
          have e9 : q 9 = .int .i64 (i : Int) := Option.some.inj h9
          have e10 : q 10 = .pointer (some ⟨ib, 0, none⟩) := Option.some.inj h10
          have e23 : q 23 = .slice (some ⟨lb, lo, none⟩) L.length cap := Option.some.inj h23
          have e24 : q 24 = .int .i64 (L.length : Int) := Option.some.inj h24
          have e25 : q 25 = .int .i64 (i : Int) := Option.some.inj h25
          have y0 : q 0 = u 0 := Option.some.inj (hU 0 (by simp))
          have y1 : q 1 = u 1 := Option.some.inj (hU 1 (by simp))
          have y3 : q 3 = u 3 := Option.some.inj (hU 3 (by simp))
          have y4 : q 4 = u 4 := Option.some.inj (hU 4 (by simp))
          have y12 : q 12 = u 12 := Option.some.inj (hU 12 (by simp))
          have y13 : q 13 = u 13 := Option.some.inj (hU 13 (by simp))
          have y14 : q 14 = u 14 := Option.some.inj (hU 14 (by simp))
          have y15 : q 15 = u 15 := Option.some.inj (hU 15 (by simp))
          have y16 : q 16 = u 16 := Option.some.inj (hU 16 (by simp))
          have y17 : q 17 = u 17 := Option.some.inj (hU 17 (by simp))
          have y18 : q 18 = u 18 := Option.some.inj (hU 18 (by simp))
          have y19 : q 19 = u 19 := Option.some.inj (hU 19 (by simp))
          have y20 : q 20 = u 20 := Option.some.inj (hU 20 (by simp))
          have y21 : q 21 = u 21 := Option.some.inj (hU 21 (by simp))
          have y22 : q 22 = u 22 := Option.some.inj (hU 22 (by simp))
          have y83 : q 83 = u 83 := Option.some.inj (hU 83 (by simp))
          rw [e2, e5, e6, e7, e8, e9, e10, e23, e24, e25, y0, y1, y3, y4, y12, y13, y14, y15, y16, y17, y18, y19, y20, y21, y22, y83]
          clear hU y0 y1 y3 y4 y12 y13 y14 y15 y16 y17 y18 y19 y20 y21 y22 y83
          clear e2 e5 e6 e7 e8 e9 e10 e23 e24 e25 h2 h5 h6 h7 h8 h9 h10 h23 h24 h25 hT
          have HP2 := hide ((unhide HPop).all (s := (ivA L i).s))
          rw [← unhide HPQ] at HP2
          have hst2 : gvUp L m (i + 1) = gGive i (kIns L i PQ.1) PQ.2 g.o g.n := by
            rw [unhide HSt, gvStep, ← unhide HPQ]
          obtain ⟨h1, f1⟩ := PQ
          simp only at HP2 hst2 hS
          have HSt2 := hide hst2
          obtain ⟨v1, v2, hA⟩ := unhide hS
          have HA := hide hA
          have hP2 := unhide HP2
          have hl1 : h1.length ≤ 100000 := by have := hP2.ln; omega
          have H18 := hide (add_w wq w.heap.size FB 13 #[.pointer (some ⟨w.heap.size, 0, none⟩)] v2 h1 i _ hA.B hl1 hA.X.size (cmpHold wq L (some ⟨lb, lo, none⟩) cap w.heap.size h1 i hP2.hs (fun y hy => by have := (hP2.hk y hy).1; omega) hlt ((unhide HR).ext hA.X) hA.rb))
          clear hst2 hS hA hP2 HSt HPQ HPop hl1
          cases f1 with
          | cons p f =>
            go_wp2_with (first
              | (go_at_call 18; refine Calls.mono (unhide H18) ?_; rintro e w6 ⟨rfl, v2', hB6, hk6, ho6⟩
                 have A6 := hide ((unhide HA).turnB hB6 hk6 ho6)
                 have H16 := hide (some_w w6 w.heap.size FA fA v1 (p :: f) (unhide A6).A)
                 have H19 := hide (takeFirst_w w6 w.heap.size FA fA v1 p f (unhide A6).A)
                 clear hB6 hk6 ho6)
              | (go_at_call 16; refine Calls.mono (unhide H16) ?_; rintro e w7 ⟨rfl, rfl⟩)
              | (go_at_call 19; refine Calls.mono (unhide H19) ?_; rintro e w7 ⟨rfl, v1', hw7, hA7, ho7⟩
                 have A7 := hide ((unhide A6).turnA hA7 (by rw [hw7]; exact crf_set _ _ _ _) (Or.inl ho7))
                 have hTi : T1[i]? = some ((ivA L i).r, -1, -1) := by rw [unhide HT1, List.getElem?_set_self (by rw [plT_len]; exact hlt)]
                 have HTi := hide hTi
                 have ck := (unhide A7).rP.cell _ (tpV_at hTi).2.1
                 have cf := k_rowF (unhide A7).rP (i * 3 + 1)
                 clear hw7 hA7 ho7 hTi))
            go_roundw
            case rel =>
              have hTn : (T1.set i ((ivA L i).r, (p : Int), -1)) = plT L (g.o ++ [(some p, none)]) := by
                have hol := unhide HOl
                rw [plT_snoc _ (by rw [hol]; exact hlt), hol, unhide HT1, List.set_set]
                rfl
              have A8 := (unhide A7).set1 (unhide HTi) (p : Int)
              simp only at A8
              rw [hTn] at A8
              exact ⟨i + 1, by go_num, by rw [unhide HSt2]; rfl, by omega, by rw [unhide HSt2]; exact ⟨_, _, A8⟩⟩
            case measure => simp [intOf]; omega
          | nil =>
            obtain ⟨W, hW⟩ : ∃ W, W = (kIns L i h1).getLastD 0 := ⟨_, rfl⟩
            have hke : insAt h1 (bI (fun y => decide (kC L y i < 0)) h1) i = kIns L i h1 := rfl
            have hkn : kIns L i h1 ≠ [] := fun e => by
              have := kIns_len L i h1
              rw [e] at this
              simp at this
            have hin : i ∉ h1 := fun h => by have := ((unhide HP2).hk i h).1; omega
            have hlm := last_max (kIns_lt (unhide HP2).hs hin) hkn
            rw [← hW] at hlm
            have hWm := kIns_mem.1 hlm.1
            have hlen : (kIns L i h1).length ≤ 1000000 := by
              have e1 := kIns_len L i h1
              have e2 := (unhide HP2).ln
              rw [List.length_nil] at e2
              omega
            have hTi : T1[i]? = some ((ivA L i).r, -1, -1) := by rw [unhide HT1, List.getElem?_set_self (by rw [plT_len]; exact hlt)]
            rw [hke] at H18
            have HTi := hide hTi
            have HW := hide hW
            have hnb : (g.n : Int) + 1 ≤ 1000000 := by omega
            by_cases hwi : W = i
            · subst hwi
              have HTn : Hd (T1.set W ((ivA L W).r, -1, (g.n : Int)) = plT L (g.o ++ [(none, some g.n)])) := by
                have hol := unhide HOl
                refine hide ?_
                rw [plT_snoc _ (by rw [hol]; exact hlt), hol, unhide HT1, List.set_set]
                rfl
              have hst3 : gvUp L m (W + 1) = ⟨[], (kIns L W h1).dropLast, g.o ++ [(none, some g.n)], g.n + 1⟩ := by
                rw [unhide HSt2]
                unfold gGive
                simp only
                rw [if_pos (unhide HW).symm]
              have HSt3 := hide hst3
              clear hst3 hlm hWm hin hke hTi hW
              go_wp2_with (first
                | (go_at_call 18; refine Calls.mono (unhide H18) ?_; rintro e w6 ⟨rfl, v2', hB6, hk6, ho6⟩
                   have A6 := hide ((unhide HA).turnB hB6 hk6 ho6)
                   have H16 := hide (some_w w6 w.heap.size FA fA v1 [] (unhide A6).A)
                   have H20 := hide (takeLast_w w6 w.heap.size FB (fB w.heap.size) v2' (kIns L W h1) hkn hlen (unhide A6).B)
                   rw [← unhide HW] at H20
                   clear hB6 hk6 ho6)
                | (go_at_call 16; refine Calls.mono (unhide H16) ?_; rintro e w7 ⟨rfl, rfl⟩)
                | (go_at_call 20; refine Calls.mono (unhide H20) ?_; rintro e w7 ⟨rfl, v3', hw7, hB7, ho7⟩
                   have A7 := hide ((unhide A6).turnB hB7 (by rw [hw7]; exact crf_set _ _ _ _) (Or.inl ho7))
                   have ck := (unhide A7).rP.cell _ (tpV_at (unhide HTi)).2.1
                   have ck2 := (unhide A7).rP.cell _ (tpV_at (unhide HTi)).2.2
                   have cf := fun j => k_rowF (unhide A7).rP j
                   clear hw7 hB7 ho7))
              go_roundw
              case rel =>
                have hs : T1.set W ((ivA L W).r, -1, -1) = T1 := set_selfC (unhide HTi)
                have B1 := (unhide A7).set1 (unhide HTi) (-1)
                simp only at B1
                rw [hs] at B1
                have B2 := B1.set1 (unhide HTi) (-1)
                simp only at B2
                rw [hs] at B2
                have B3 := B2.set2 (unhide HTi) (g.n : Int)
                simp only at B3
                rw [unhide HTn] at B3
                exact ⟨W + 1, by go_num, by rw [unhide HSt3]; go_num, by omega, by rw [unhide HSt3]; exact ⟨_, _, B3⟩⟩
              case measure => simp [intOf]; omega
            · have hWh := hWm.resolve_left hwi
              obtain ⟨hWi, p, hp⟩ := (unhide HP2).hk W hWh
              have hWl : W < L.length := by omega
              have hWl2 : (W : Int) < (L.length : Int) := by omega
              have hpO : pO g.o W = p := by unfold pO; rw [hp]
              have hTW : T1[W]? = some ((ivA L W).r, (p : Int), -1) := by
                rw [unhide HT1, List.getElem?_set_ne (by omega), plT_at hWl, hp]
                rfl
              have HTW := hide hTW
              have HTn : Hd ((((T1.set i ((ivA L i).r, (p : Int), -1)).set W ((ivA L W).r, -1, -1)).set W ((ivA L W).r, -1, (g.n : Int))) = plT L (g.o.set W (none, some g.n) ++ [(some p, none)])) := by
                have hol := unhide HOl
                refine hide ?_
                rw [plT_snoc _ (by rw [List.length_set, hol]; exact hlt), List.length_set, hol, plT_set _ (by rw [hol]; exact hWi) (by rw [hol]; omega), unhide HT1, List.set_set, List.set_set, List.set_comm _ _ (fun e => hwi e)]
                rfl
              have hst3 : gvUp L m (i + 1) = ⟨[], (kIns L i h1).dropLast, g.o.set W (none, some g.n) ++ [(some p, none)], g.n + 1⟩ := by
                rw [unhide HSt2]
                unfold gGive
                simp only
                rw [← unhide HW, if_neg hwi, hpO]
              have HSt3 := hide hst3
              have hiw : ¬ i = W := fun e => hwi e.symm
              clear hst3 hlm hWm hin hke hTi hW hWh hp hpO hTW
              go_wp2_with (first
                | (go_at_call 18; refine Calls.mono (unhide H18) ?_; rintro e w6 ⟨rfl, v2', hB6, hk6, ho6⟩
                   have A6 := hide ((unhide HA).turnB hB6 hk6 ho6)
                   have H16 := hide (some_w w6 w.heap.size FA fA v1 [] (unhide A6).A)
                   have H20 := hide (takeLast_w w6 w.heap.size FB (fB w.heap.size) v2' (kIns L i h1) hkn hlen (unhide A6).B)
                   rw [← unhide HW] at H20
                   clear hB6 hk6 ho6)
                | (go_at_call 16; refine Calls.mono (unhide H16) ?_; rintro e w7 ⟨rfl, rfl⟩)
                | (go_at_call 20; refine Calls.mono (unhide H20) ?_; rintro e w7 ⟨rfl, v3', hw7, hB7, ho7⟩
                   have A7 := hide ((unhide A6).turnB hB7 (by rw [hw7]; exact crf_set _ _ _ _) (Or.inl ho7))
                   have ck := (unhide A7).rP.cell _ (tpV_at (unhide HTi)).2.1
                   have ckW := (unhide A7).rP.cell _ (tpV_at (unhide HTW)).2.1
                   have ckX := (unhide A7).rP.cell _ (tpV_at (unhide HTW)).2.2
                   have cf := fun j => k_rowF (unhide A7).rP j
                   clear hw7 hB7 ho7))
              go_roundw
              case rel =>
                have B1 := (unhide A7).set1 (unhide HTi) (p : Int)
                simp only at B1
                have t1 : (T1.set i ((ivA L i).r, (p : Int), -1))[W]? = some ((ivA L W).r, (p : Int), -1) := by rw [List.getElem?_set_ne hiw]; exact unhide HTW
                have B2 := B1.set1 t1 (-1)
                simp only at B2
                have t2 : ((T1.set i ((ivA L i).r, (p : Int), -1)).set W ((ivA L W).r, -1, -1))[W]? = some ((ivA L W).r, -1, -1) := List.getElem?_set_self (List.getElem?_eq_some_iff.1 t1).1
                have B3 := B2.set2 t2 (g.n : Int)
                simp only at B3
                rw [unhide HTn] at B3
                exact ⟨i + 1, by go_num, by rw [unhide HSt3]; go_num, by omega, by rw [unhide HSt3]; exact ⟨_, _, B3⟩⟩
              case measure => simp [intOf]; omega
      · have hie : i = L.length := by omega
        have hlt2 : ¬ (i : Int) < (L.length : Int) := by omega
        obtain ⟨x1, x2, hA⟩ := unhide hS
        have HA := hide hA
        have hgi := g_is (unhide HG) n.toNat
        rw [← unhide HM0] at hgi
        have HGI := hide hgi
        subst hie
        clear hS hA hgi hlt hi
        go_wp2_with fail
        go_ret
        exact ⟨_, ⟨_, rfl⟩, by rw [← unhide HGI]; exact row_rep (unhide HA).rP, (unhide HA).X⟩

end Go.Proofs.Ytjopfpchbakggaa
