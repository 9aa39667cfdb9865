/- The document's Assign: registers and slots one by one. -/
import Derived.Test.YtjopfpchbakggaaCoX
import Derived.StillTailTactics
set_option linter.unusedSimpArgs false
set_option linter.unusedVariables false
set_option maxRecDepth 10000
namespace Go.Proofs.Ytjopfpchbakggaa
open Go.RowKit

theorem k_infoP : ∃ i0, Try.prog.info? 38 = some i0 ∧ i0.zero = some (.agg #[.int .i64 0, .int .i64 0, .int .i64 0]) ∧ i0.size = 3 ∧ i0.bytes = 24 := by
  have h : (Try.prog.info? 38).map (fun i => (i.zero, i.size, i.bytes)) = some (some (.agg #[.int .i64 0, .int .i64 0, .int .i64 0]), 3, 24) := by kernel_rfl
  cases hi : Try.prog.info? 38 with
  | none => rw [hi] at h; cases h
  | some i =>
    rw [hi] at h
    simp at h
    exact ⟨i, rfl, h.1, h.2.1, h.2.2⟩
theorem make_pls (n : Nat) (hn : n ≤ 1000000) (w : World) : (Instr.makeSlice 36 (.int .i64 (n : Int)) (.int .i64 (n : Int))).run Try.prog w = .ok (.slice (some ⟨w.heap.size, 0, none⟩) n n) (w.alloc (.cells (tpV (List.replicate n (0, 0, 0))).toArray 38)) := by
  obtain ⟨i0, hi, hz, hs, hb⟩ := k_infoP
  have h := run_make (P := Try.prog) w 36 38 i0 (.agg #[.int .i64 0, .int .i64 0, .int .i64 0]) Try.underlying36 hi hz .i64 .i64 n n (by omega) (by omega) (by rw [hb]; omega) (by omega)
  rw [hs] at h
  simp only [Int.toNat_natCast] at h
  rw [h, show (Value.agg #[Value.int .i64 0, Value.int .i64 0, Value.int .i64 0]).cells = #[Value.int .i64 0, Value.int .i64 0, Value.int .i64 0] from rfl, made3]

/-- By the normal way alone, as M says. -/
def NrmM (M : Act → World → Prop) : Exit → Act → World → Prop
  | .normal, a, w => M a w
  | _, _, _ => False
theorem wp_cut4 {P : Program} {x0 x1 x2 x3 y : Code} {Q : Exit → Act → World → Prop} {a : Act} {w : World} (M : Act → World → Prop) (h1 : x0.wp P (Exit.then (x1.wp P (Exit.then (x2.wp P (Exit.then (x3.wp P (NrmM M)) (NrmM M))) (NrmM M))) (NrmM M)) a w) (h2 : ∀ a w, M a w → y.wp P Q a w) : (x0.seq (x1.seq (x2.seq (x3.seq y)))).wp P Q a w := by
  refine wp_seq (Code.wp_mono ?_ h1)
  intro e a1 w1 h
  cases e <;> first | exact h.elim | skip
  refine wp_seq (Code.wp_mono ?_ h)
  intro e a2 w2 h
  cases e <;> first | exact h.elim | skip
  refine wp_seq (Code.wp_mono ?_ h)
  intro e a3 w3 h
  cases e <;> first | exact h.elim | skip
  refine wp_seq (Code.wp_mono ?_ h)
  intro e a4 w4 h
  cases e <;> first | exact h.elim | exact h2 _ _ h
theorem fr179 (T : Array Value) (h : T.size = 179) : ∃ u : Nat → Value, T = #[u 0, u 1, u 2, u 3, u 4, u 5, u 6, u 7, u 8, u 9, u 10, u 11, u 12, u 13, u 14, u 15, u 16, u 17, u 18, u 19, u 20, u 21, u 22, u 23, u 24, u 25, u 26, u 27, u 28, u 29, u 30, u 31, u 32, u 33, u 34, u 35, u 36, u 37, u 38, u 39, u 40, u 41, u 42, u 43, u 44, u 45, u 46, u 47, u 48, u 49, u 50, u 51, u 52, u 53, u 54, u 55, u 56, u 57, u 58, u 59, u 60, u 61, u 62, u 63, u 64, u 65, u 66, u 67, u 68, u 69, u 70, u 71, u 72, u 73, u 74, u 75, u 76, u 77, u 78, u 79, u 80, u 81, u 82, u 83, u 84, u 85, u 86, u 87, u 88, u 89, u 90, u 91, u 92, u 93, u 94, u 95, u 96, u 97, u 98, u 99, u 100, u 101, u 102, u 103, u 104, u 105, u 106, u 107, u 108, u 109, u 110, u 111, u 112, u 113, u 114, u 115, u 116, u 117, u 118, u 119, u 120, u 121, u 122, u 123, u 124, u 125, u 126, u 127, u 128, u 129, u 130, u 131, u 132, u 133, u 134, u 135, u 136, u 137, u 138, u 139, u 140, u 141, u 142, u 143, u 144, u 145, u 146, u 147, u 148, u 149, u 150, u 151, u 152, u 153, u 154, u 155, u 156, u 157, u 158, u 159, u 160, u 161, u 162, u 163, u 164, u 165, u 166, u 167, u 168, u 169, u 170, u 171, u 172, u 173, u 174, u 175, u 176, u 177, u 178] := by
  refine ⟨fun i => T.getD i undef, ?_⟩
  have e : T = ((List.range T.size).map (fun i => T.getD i undef)).toArray := by
    apply Array.ext
    · simp
    · intro i h1 h2
      simp [h1]
  rw [h] at e
  exact e

theorem rp_at0 (n k : Nat) (h : k < n) : (rp n k)[k]? = some (.int .i64 0) := by
  unfold rp
  rw [List.getElem?_append_right (by simp), List.length_replicate, Nat.sub_self, List.getElem?_replicate, if_pos (by omega)]
theorem rp_set (n k : Nat) (h : k < n) : (rp n k).set k (Value.int .i64 (-1)) = rp n (k + 1) := by
  have := rp_splice n k 1 (by omega)
  rw [← this]
  unfold splice
  apply List.ext_getElem?
  intro j
  have hl := rp_len n k (by omega)
  by_cases hj : j = k
  · subst hj
    rw [List.getElem?_set_self (by omega), List.getElem?_append_right (by simp; omega)]
    simp
    rw [Nat.min_eq_left (by omega)]
    simp
  · rw [List.getElem?_set_ne (fun e => hj e.symm)]
    by_cases hj2 : j < k
    · rw [List.getElem?_append_left (by rw [List.length_take]; omega), List.getElem?_take_of_lt hj2]
    · rw [List.getElem?_append_right (by rw [List.length_take]; omega), List.length_take, Nat.min_eq_left (by omega), List.getElem?_append_right (by simp; omega), List.getElem?_drop]
      simp
      congr 1
      omega

/-- Registers of those that are over, among the first p. -/
def cOvP (L : List Iv) (s : Int) (h : List (Option Nat)) (p : Nat) : List (Option Nat) := (h.take p).map (cFr1 L s) ++ h.drop p
theorem cOvP_0 (L : List Iv) (s : Int) (h : List (Option Nat)) : cOvP L s h 0 = h := by simp [cOvP]
theorem cOvP_all (L : List Iv) (s : Int) (h : List (Option Nat)) : cOvP L s h h.length = cOver L s h := by simp [cOvP, cOver]
theorem cOvP_at {L : List Iv} {s : Int} {h : List (Option Nat)} {p : Nat} {x : Option Nat} (hx : h[p]? = some x) : (cOvP L s h p)[p]? = some x := by
  have hl := (List.getElem?_eq_some_iff.1 hx).1
  unfold cOvP
  rw [List.getElem?_append_right (by simp; omega), List.length_map, List.length_take, Nat.min_eq_left (by omega), Nat.sub_self, List.getElem?_drop]
  exact hx
theorem cOvP_step {L : List Iv} {s : Int} {h : List (Option Nat)} {p : Nat} {x : Option Nat} (hx : h[p]? = some x) : cOvP L s h (p + 1) = (cOvP L s h p).set p (cFr1 L s x) := by
  have hl := (List.getElem?_eq_some_iff.1 hx).1
  unfold cOvP
  rw [List.set_append_right _ _ (by simp; omega), List.length_map, List.length_take, Nat.min_eq_left (by omega), Nat.sub_self, List.take_add_one, hx, List.map_append]
  have e : h.drop p = h[p] :: h.drop (p + 1) := List.drop_eq_getElem_cons hl
  rw [e, List.set_cons_zero, List.append_assoc]
  rfl
theorem cOvP_same {L : List Iv} {s : Int} {h : List (Option Nat)} {p : Nat} {x : Option Nat} (hx : h[p]? = some x) (hs : cFr1 L s x = x) : cOvP L s h (p + 1) = cOvP L s h p := by
  rw [cOvP_step hx, hs]
  apply List.ext_getElem?
  intro j
  by_cases hj : j = p
  · subst hj
    rw [List.getElem?_set_self (List.getElem?_eq_some_iff.1 (cOvP_at (L := L) (s := s) hx)).1, cOvP_at hx]
  · rw [List.getElem?_set_ne (fun e => hj e.symm)]

theorem cFree_dropN {h : List (Option Nat)} {j : Nat} (hx : h[j]? = some none) : (cFree (h.drop j)).map (· + j) = some j := by
  obtain ⟨h1, h2⟩ := List.getElem?_eq_some_iff.1 hx
  rw [List.drop_eq_getElem_cons h1, h2]
  simp [cFree]
theorem cFree_dropS {h : List (Option Nat)} {j k : Nat} (hx : h[j]? = some (some k)) : (cFree (h.drop j)).map (· + j) = (cFree (h.drop (j + 1))).map (· + (j + 1)) := by
  obtain ⟨h1, h2⟩ := List.getElem?_eq_some_iff.1 hx
  rw [List.drop_eq_getElem_cons h1, h2, cFree, Option.map_map]
  congr 1
  funext q
  show q + 1 + j = q + (j + 1)
  omega

/-- By the normal way alone. -/
def Nrm (Q : Exit → Act → World → Prop) : Exit → Act → World → Prop
  | .normal, a, w => Q .normal a w
  | _, _, _ => False
theorem wp_nrm {P : Program} {c : Code} {Q : Exit → Act → World → Prop} {a : Act} {w : World} (h : c.wp P (Nrm Q) a w) : c.wp P Q a w :=
  Code.wp_mono (fun e a w hq => by cases e <;> first | exact hq | exact hq.elim) h
theorem nrm_outC {Q : Exit → Act → World → Prop} {a : Act} {w : World} (h : Q .normal a w) : Nrm Q .normal a w := h

set_option maxHeartbeats 1500000 in
theorem rassign_w (L : List Iv) (n : Int) (a : Option Addr) (cap : Nat) (w : World) (hL : L.length ≤ 100000) (hI : IvOk L) (hn : n ≤ 1000000) (hr : RepI w (In w) a (tpI (ivT L))) : Calls Try.prog 10 #[.slice a L.length cap, .int .i64 n] w fun e w' => e = .returned (.slice (some ⟨w.heap.size, 0, none⟩) L.length L.length) ∧ Row w' w.heap.size 38 (tpV (plT L (cAsg L n.toNat).o)) ∧ Ext w w' := by
  obtain ⟨m, hm⟩ : ∃ m, m = min (max n.toNat 1) (L.length + 1) := ⟨_, rfl⟩
  have hmb : 1 ≤ m ∧ m ≤ 100001 := by omega
  obtain ⟨W1, hW1⟩ : ∃ W1, W1 = w.alloc (.cells (tpV (List.replicate L.length (0, 0, 0))).toArray 38) := ⟨_, rfl⟩
  obtain ⟨W2, hW2⟩ : ∃ W2, W2 = W1.alloc (.cells (ns (List.replicate m 0)).toArray 3) := ⟨_, rfl⟩
  have hmk := make_pls L.length (by omega) w
  rw [← hW1] at hmk
  have hmh := fun (x : Int) (hx : x = (m : Int)) => (show _ from by rw [hx]; exact make_nats m (by omega) W1 : (Instr.makeSlice 41 (.int .i64 x) (.int .i64 x)).run Try.prog W1 = .ok (.slice (some ⟨W1.heap.size, 0, none⟩) m m) (W1.alloc (.cells (ns (List.replicate m 0)).toArray 3)))
  rw [← hW2] at hmh
  have hs1 : W1.heap.size = w.heap.size + 1 := by rw [hW1]; simp
  rw [hs1] at hmh
  have X1 : Ext w W1 := by rw [hW1]; exact Ext.alloc _ _
  have X2 : Ext W1 W2 := by rw [hW2]; exact Ext.alloc _ _
  have rO : Row W2 w.heap.size 38 (tpV (List.replicate L.length (0, 0, 0))) := by
    refine Row.on ?_ X2
    rw [hW1]
    exact Row.new _ _ _
  have rH : Row W2 (w.heap.size + 1) 3 (rp m 0) := by
    rw [hW2, ← hs1, show rp m 0 = ns (List.replicate m 0) by simp [rp, ns]]
    exact Row.new _ _ _
  have HO := hide rO
  have HH := hide rH
  have HX2 := hide (X1.trans X2)
  have HMH := hide hmh
  have HM := hide hm
  have HI := hide hI
  have HR := hide hr
  clear hW1 hW2 hmh rO rH X1 X2 hm hI hr
  go_enter Try.func10, Try.ntmps10
  refine wp_cut4 (fun a' w' => a'.defers = [] ∧ a'.tmps.size = 179 ∧ a'.tmps[0]? = some (.slice a L.length cap) ∧ a'.tmps[5]? = some (.slice (some ⟨w.heap.size, 0, none⟩) L.length L.length) ∧ a'.tmps[6]? = some (.slice (some ⟨w.heap.size + 1, 0, none⟩) m m) ∧ w' = W2) ?_ ?_
  · go_wp2_with fail
    all_goals
      first
        | rw [unhide HMH 1 (by have := unhide HM; omega)]
        | rw [unhide HMH n (by have := unhide HM; omega)]
        | rw [unhide HMH ((L.length : Int) + 1) (by have := unhide HM; omega)]
      simp only [Result.andThen]
      go_wp2_with fail
      exact ⟨rfl, rfl, rfl, rfl, rfl, rfl⟩
  · rintro ⟨T, d⟩ wr ⟨hd, hT, h0, h5, h6, hw⟩
    obtain rfl : d = [] := hd
    obtain ⟨u, rfl⟩ := fr179 T hT
    have e0 : u 0 = .slice a L.length cap := Option.some.inj h0
    have e5 : u 5 = .slice (some ⟨w.heap.size, 0, none⟩) L.length L.length := Option.some.inj h5
    have e6 : u 6 = .slice (some ⟨w.heap.size + 1, 0, none⟩) m m := Option.some.inj h6
    rw [e0, e5, e6]
    have hw : wr = W2 := hw
    subst hw
    clear e0 e5 e6 h0 h5 h6 hT HMH hmk hs1
    go_wp2_with fail
    go_loopw [7] (fun t wq => ∃ (k : Nat), t = .int .i64 k ∧ k ≤ m ∧ Hd (Ext w wq ∧ Row wq w.heap.size 38 (tpV (List.replicate L.length (0, 0, 0))) ∧ Row wq (w.heap.size + 1) 3 (rp m k))) (fun t _ => m - (intOf t).toNat)
    case atStart => exact ⟨0, rfl, by omega, unhide HX2, unhide HO, unhide HH⟩
    case round =>
      clear HO HH HX2
      obtain ⟨k, rfl, hk, hS⟩ := hrel
      by_cases hlt : k < m
      · have hlt2 : (k : Int) < (m : Int) := by omega
        have fz := k_rowF (unhide hS).2.2 k
        have ck := (unhide hS).2.2.cell k (rp_at0 m k hlt)
        go_wp2_with fail
        go_roundw
        case rel =>
          obtain ⟨s1, s2, s3⟩ := unhide hS
          exact ⟨k + 1, by go_num, by omega, s1.set (p := ⟨w.heap.size + 1, k, none⟩) (Nat.le_succ _) _, s2.other (Nat.ne_of_lt (Nat.lt_succ_self _)) _ _, by rw [← rp_set m k hlt]; exact s3.set k _⟩
        case measure => simp [intOf]; omega
      · have hkm : k = m := by omega
        have hlt2 : ¬ (k : Int) < (m : Int) := by omega
        have S0 : Hd (CoS w wr w.heap.size (w.heap.size + 1) 38 (plT L (cUp L m 0).o) (cUp L m 0).h) := by
          obtain ⟨s1, s2, s3⟩ := unhide hS
          rw [hkm, rp_full] at s3
          exact ⟨s1, Nat.le_refl _, Nat.le_succ _, Nat.ne_of_lt (Nat.lt_succ_self _), by rw [show (cUp L m 0).o = [] from rfl, plT_nil]; exact s2, s3⟩
        clear hS hkm hlt hk
        go_wp2_with fail
        go_loopw [8, 9] (fun t8 t9 wq => ∃ (i : Nat), t9 = .int .i64 i ∧ t8 = .int .i64 ((cUp L m i).n : Int) ∧ i ≤ L.length ∧ Hd (CoS w wq w.heap.size (w.heap.size + 1) 38 (plT L (cUp L m i).o) (cUp L m i).h)) (fun _ t9 _ => L.length - (intOf t9).toNat)
        case atStart => exact ⟨0, rfl, rfl, by omega, S0⟩
        case round =>
          clear S0
          obtain ⟨i, rfl, rfl, hi, hS⟩ := hrel
          by_cases hlt : i < L.length
          · have hlt2 : (i : Int) < (L.length : Int) := by omega
            have HIv := hide (cUp_inv (unhide HI) m i hi)
            obtain ⟨c, hc⟩ : ∃ c, c = cUp L m i := ⟨_, rfl⟩
            have hst : cUp L m (i + 1) = cStep L i c := by rw [hc]; rfl
            rw [← hc] at hS HIv ⊢
            clear hc
            have HSt := hide hst
            clear hst
            have hrp := ((unhide HR).ext (unhide hS).X)
            obtain ⟨lb, lo, rfl, _, l0⟩ := hrp.at (tpI_at (ivT_at hlt)).1
            obtain ⟨lb', lo', e1, _, l1⟩ := hrp.at (tpI_at (ivT_at hlt)).2.1
            injection e1 with e1; injection e1 with e1 e2; subst e1 e2
            have hTi : i < (plT L c.o).length := by rw [plT_len]; exact hlt
            obtain ⟨ti, hti⟩ : ∃ ti, (plT L c.o)[i]? = some ti := ⟨_, List.getElem?_eq_getElem hTi⟩
            obtain ⟨o0, o1, o2⟩ := tpV_at hti
            have c0 := (unhide hS).rO.cell _ o0
            have c1 := (unhide hS).rO.cell _ o1
            have c2 := (unhide hS).rO.cell _ o2
            have f0 := k_rowF (unhide hS).rO
            have S1 := hide ((unhide hS).set3 hTi (ivA L i).r (-1) (-1))
            clear hrp o0 o1 o2 l1
            go_wp2_with fail
            obtain ⟨W3, hW3⟩ : ∃ W3, W3 = (((wr.setCell ⟨w.heap.size, i * 3, none⟩ (.int .i64 (ivA L i).r)).setCell ⟨w.heap.size, i * 3 + 1, none⟩ (.int .i64 (-1))).setCell ⟨w.heap.size, i * 3 + 2, none⟩ (.int .i64 (-1))) := ⟨_, rfl⟩
            rw [← hW3] at S1 ⊢
            obtain ⟨T1, hT1⟩ : ∃ T1, T1 = (plT L c.o).set i ((ivA L i).r, -1, -1) := ⟨_, rfl⟩
            rw [← hT1] at S1
            have HT1 := hide hT1
            clear hW3 hT1 c0 c1 c2 f0 l0 hS hti hTi
            go_loopw [11] (fun t wq => ∃ (p : Nat), t = .int .i64 p ∧ p ≤ m ∧ Hd (CoS w wq w.heap.size (w.heap.size + 1) 38 T1 (cOvP L (ivA L i).s c.h p))) (fun t _ => m - (intOf t).toNat)
            case atStart => exact ⟨0, rfl, by omega, hide (by rw [cOvP_0]; exact unhide S1)⟩
            case round =>
              clear S1
              obtain ⟨p, rfl, hp, hA⟩ := hrel
              by_cases hpm : p < m
              · have hpm2 : (p : Int) < (m : Int) := by omega
                obtain ⟨x, hx⟩ : ∃ x, c.h[p]? = some x := ⟨_, List.getElem?_eq_getElem (by rw [(unhide HIv).hl]; exact hpm)⟩
                have hne : Nonempty (RGw wr) := ⟨⟨wr, Ext.refl _⟩⟩
                have g0 := (unhide hA).rH.cell p (os_at (cOvP_at hx))
                have v0 := fun y : RGw wr => y.h.cell g0
                cases x with
                | none =>
                  have hsame := cOvP_same (L := L) (s := (ivA L i).s) hx rfl
                  have HSm := hide hsame
                  clear hx hsame
                  simp only [oI] at g0 v0
                  go_wp2_with fail
                  refine wp_region_rx (W := wr) (by kernel_rfl) (by kernel_rfl) (Ext.refl _) ?_
                  repeat (go_big_quiet_step (fail))
                  refine wpQuiet_nil ?_
                  rintro w4 ⟨⟨_, hx4⟩, rfl⟩
                  have A4 := hide ((unhide hA).ext hx4)
                  clear v0 g0 hx4
                  go_wp2_with fail
                  go_roundw
                  case rel => exact ⟨p + 1, by go_num, by omega, hide (by rw [unhide HSm]; exact unhide A4)⟩
                  case measure => simp [intOf]; omega
                | some k =>
                  have hki : k < i := (unhide HIv).lt ((unhide HIv).a p k hx)
                  have hkl : k < L.length := by omega
                  have hk2 : (k : Int) < (L.length : Int) := by omega
                  have hk0 : (0 : Int) ≤ (k : Int) := by omega
                  have hrp := (unhide HR).ext (unhide hA).X
                  obtain ⟨lb', lo', e1, _, l1⟩ := hrp.at (tpI_at (ivT_at hlt)).2.1
                  injection e1 with e1; injection e1 with e1 e2; subst e1 e2
                  obtain ⟨lb', lo', e1, _, l2⟩ := hrp.at (tpI_at (ivT_at hkl)).2.2
                  injection e1 with e1; injection e1 with e1 e2; subst e1 e2
                  have v1 := fun y : RGw wr => y.h.cell l1
                  have v2 := fun y : RGw wr => y.h.cell l2
                  simp only [oI, ← Nat.add_assoc] at g0 v0 v1 v2
                  clear hrp l1 l2
                  by_cases he : (ivA L k).e < (ivA L i).s
                  · have hstp := cOvP_step (L := L) (s := (ivA L i).s) hx
                    rw [show cFr1 L (ivA L i).s (some k) = none from if_pos he] at hstp
                    have HStp := hide hstp
                    have HX := hide hx
                    clear hx hstp
                    go_wp2_with fail
                    refine wp_region_rx (W := wr) (by kernel_rfl) (by kernel_rfl) (Ext.refl _) ?_
                    repeat (go_big_quiet_step (fail))
                    refine wpQuiet_nil ?_
                    rintro w4 ⟨⟨_, hx4⟩, rfl⟩
                    have A4 := hide ((unhide hA).ext hx4)
                    have g4 := hx4.cell g0
                    have fz := k_rowF (unhide A4).rH p
                    clear v0 v1 v2 g0 hx4
                    go_wp2_with fail
                    go_roundw
                    case rel => exact ⟨p + 1, by go_num, by omega, hide (by rw [unhide HStp]; exact (unhide A4).setH p none)⟩
                    case measure => simp [intOf]; omega
                  · have hsame := cOvP_same (L := L) (s := (ivA L i).s) hx (if_neg he)
                    have HSm := hide hsame
                    clear hx hsame
                    go_wp2_with fail
                    refine wp_region_rx (W := wr) (by kernel_rfl) (by kernel_rfl) (Ext.refl _) ?_
                    repeat (go_big_quiet_step (fail))
                    refine wpQuiet_nil ?_
                    rintro w4 ⟨⟨_, hx4⟩, rfl⟩
                    have A4 := hide ((unhide hA).ext hx4)
                    clear v0 v1 v2 g0 hx4
                    go_wp2_with fail
                    go_roundw
                    case rel => exact ⟨p + 1, by go_num, by omega, hide (by rw [unhide HSm]; exact unhide A4)⟩
                    case measure => simp [intOf]; omega
              · have hpm2 : ¬ (p : Int) < (m : Int) := by omega
                have S2 : Hd (CoS w wr w.heap.size (w.heap.size + 1) 38 T1 (cOver L (ivA L i).s c.h)) := hide (by
                  have h := unhide hA
                  rw [show p = c.h.length by rw [(unhide HIv).hl]; omega, cOvP_all] at h
                  exact h)
                clear hA hp
                go_wp2_with fail
                have hl2 : (cOver L (ivA L i).s c.h).length = m := by rw [cover_len, (unhide HIv).hl]
                obtain ⟨h2, hh2⟩ : ∃ h2, h2 = cOver L (ivA L i).s c.h := ⟨_, rfl⟩
                rw [← hh2] at S2 hl2
                have HH2 := hide hh2
                clear hh2
                go_loopw [10, 12] (fun t10 t12 wq => ∃ (j : Nat) (y : Int), t12 = .int .i64 y ∧ y + 1 = (j : Int) ∧ j ≤ m ∧ t10 = .int .i64 (oI ((cFree (h2.drop j)).map (· + j))) ∧ Hd (CoS w wq w.heap.size (w.heap.size + 1) 38 T1 h2)) (fun _ t12 _ => (intOf t12 + 1).toNat)
                case atStart => exact ⟨m, (m : Int) - 1, by go_num, by omega, Nat.le_refl _, by rw [List.drop_eq_nil_of_le (by omega)]; rfl, S2⟩
                case round =>
                  clear S2
                  obtain ⟨j, y, rfl, hy, hj, rfl, hB⟩ := hrel
                  cases j with
                  | succ j =>
                    obtain rfl : y = (j : Int) := by omega
                    have hjm : (j : Int) < (m : Int) := by omega
                    have hj0 : (0 : Int) ≤ (j : Int) := by omega
                    obtain ⟨x, hx⟩ : ∃ x, h2[j]? = some x := ⟨_, List.getElem?_eq_getElem (by omega)⟩
                    have g0 := (unhide hB).rH.cell j (os_at hx)
                    cases x with
                    | none =>
                      have HF := hide (cFree_dropN hx)
                      clear hx
                      simp only [oI] at g0
                      go_wp2_with fail
                      go_roundw
                      case rel => exact ⟨j, (j : Int) - 1, by go_num, by omega, by omega, by rw [unhide HF]; rfl, hB⟩
                      case measure => simp [intOf]
                    | some k =>
                      have HF := hide (cFree_dropS hx)
                      clear hx
                      simp only [oI] at g0
                      have hk0 : ¬ (k : Int) < 0 := by omega
                      go_wp2_with fail
                      go_roundw
                      case rel => exact ⟨j, (j : Int) - 1, by go_num, by omega, by omega, by rw [unhide HF], hB⟩
                      case measure => simp [intOf]
                  | zero =>
                    obtain rfl : y = -1 := by omega
                    rw [List.drop_zero, show (cFree h2).map (· + 0) = cFree h2 by cases cFree h2 <;> rfl]
                    clear hj hy
                    cases hf : cFree h2 with
                    | some q =>
                      obtain ⟨hq, _⟩ := cFree_some hf
                      have hqm : q < m := by rw [← hl2]; exact (List.getElem?_eq_some_iff.1 hq).1
                      have hqm2 : (q : Int) < (m : Int) := by omega
                      have hq0 : (0 : Int) ≤ (q : Int) := by omega
                      have g0 := (unhide hB).rH.cell q (os_at hq)
                      have hTl : i < T1.length := by rw [unhide HT1, List.length_set, plT_len]; exact hlt
                      have hti : T1[i]? = some ((ivA L i).r, -1, -1) := by rw [unhide HT1, List.getElem?_set_self (by rw [plT_len]; exact hlt)]
                      have p1 := (unhide hB).rO.cell _ (tpV_at hti).2.1
                      have fO := k_rowF (unhide hB).rO (i * 3 + 1)
                      have SS := ((unhide hB).set1 hti (q : Int)).setH q (some i)
                      have f1 := k_rowF ((unhide hB).set1 hti (q : Int)).rH q
                      have g1 := ((unhide hB).set1 hti (q : Int)).rH.cell q (os_at hq)
                      have HSS := hide SS
                      have HC : Hd (cUp L m (i + 1) = ⟨h2.set q (some i), c.o ++ [(some q, none)], c.n⟩) := hide (by
                        rw [unhide HSt]
                        unfold cStep
                        rw [← unhide HH2, hf])
                      clear SS hf hq hti
                      simp only [oI]
                      go_wp2_with fail
                      go_roundw
                      case rel =>
                        refine ⟨i + 1, by go_num, by rw [unhide HC], by omega, hide ?_⟩
                        rw [unhide HC]
                        have h := unhide HSS
                        rw [unhide HT1, List.set_set] at h
                        rw [plT_snoc _ (by rw [(unhide HIv).ol]; exact hlt), (unhide HIv).ol]
                        exact h
                      case measure => simp [intOf]; omega
                    | none =>
                      have hall := cFree_none hf
                      have hW := cWorst_mem L h2 i
                      obtain ⟨W, hWd⟩ : ∃ W, W = cWorst L h2 i := ⟨_, rfl⟩
                      rw [← hWd] at hW
                      have HWd := hide hWd
                      have HC : Hd (cUp L m (i + 1) = if W = i then ⟨h2, c.o ++ [(none, some c.n)], c.n + 1⟩ else match c.o[W]? with
                        | some (some p, _) => ⟨h2.set p (some i), c.o.set W (none, some c.n) ++ [(some p, none)], c.n + 1⟩
                        | _ => c) := hide (by
                        rw [unhide HSt]
                        unfold cStep
                        rw [← unhide HH2, hf, hWd]
                        rfl)
                      have HAll := hide hall
                      have HWm := hide hW
                      clear hf hall hWd hW
                      simp only [oI]
                      go_wp2_with fail
                      go_loopw [13, 14] (fun t13 t14 wq => ∃ (p V : Nat), t14 = .int .i64 p ∧ p ≤ m ∧ t13 = .int .i64 V ∧ V < L.length ∧ Hd (cWorst L (h2.drop p) V = W) ∧ Hd (CoS w wq w.heap.size (w.heap.size + 1) 38 T1 h2)) (fun _ t14 _ => m - (intOf t14).toNat)
                      case atStart => exact ⟨0, i, rfl, by omega, rfl, hlt, hide (by rw [List.drop_zero]; exact (unhide HWd).symm), hB⟩
                      case round =>
                        clear hB
                        obtain ⟨p, V, rfl, hp, rfl, hV, hE, hB⟩ := hrel
                        by_cases hpm : p < m
                        · have hpm2 : (p : Int) < (m : Int) := by omega
                          obtain ⟨x, hx⟩ : ∃ x, h2[p]? = some x := ⟨_, List.getElem?_eq_getElem (by omega)⟩
                          obtain ⟨k, rfl⟩ := unhide HAll p x hx
                          have hki : k < i := by
                            have h := hx
                            rw [unhide HH2] at h
                            exact (unhide HIv).lt ((unhide HIv).a p k (cover_at.1 h).1)
                          have hkl : k < L.length := by omega
                          have hk2 : (k : Int) < (L.length : Int) := by omega
                          have hk0 : (0 : Int) ≤ (k : Int) := by omega
                          have hV2 : (V : Int) < (L.length : Int) := by omega
                          have hE2 : cWorst L (h2.drop (p + 1)) (if cWr (ivA L k) (ivA L V) then k else V) = W := by
                            have h := unhide hE
                            obtain ⟨q1, q2⟩ := List.getElem?_eq_some_iff.1 hx
                            rw [List.drop_eq_getElem_cons q1, q2, cWorst] at h
                            exact h
                          have HE2 := hide hE2
                          have g0 := (unhide hB).rH.cell p (os_at hx)
                          have hrp := (unhide HR).ext (unhide hB).X
                          obtain ⟨lb', lo', e1, _, k0⟩ := hrp.at (tpI_at (ivT_at hkl)).1
                          injection e1 with e1; injection e1 with e1 e2; subst e1 e2
                          obtain ⟨lb', lo', e1, _, k1⟩ := hrp.at (tpI_at (ivT_at hkl)).2.1
                          injection e1 with e1; injection e1 with e1 e2; subst e1 e2
                          obtain ⟨lb', lo', e1, _, k2⟩ := hrp.at (tpI_at (ivT_at hkl)).2.2
                          injection e1 with e1; injection e1 with e1 e2; subst e1 e2
                          obtain ⟨lb', lo', e1, _, v0⟩ := hrp.at (tpI_at (ivT_at hV)).1
                          injection e1 with e1; injection e1 with e1 e2; subst e1 e2
                          obtain ⟨lb', lo', e1, _, v1⟩ := hrp.at (tpI_at (ivT_at hV)).2.1
                          injection e1 with e1; injection e1 with e1 e2; subst e1 e2
                          obtain ⟨lb', lo', e1, _, v2⟩ := hrp.at (tpI_at (ivT_at hV)).2.2
                          injection e1 with e1; injection e1 with e1 e2; subst e1 e2
                          simp only [oI, ← Nat.add_assoc] at g0 k0 k1 k2 v0 v1 v2
                          clear hE hE2 hrp hx
                          go_wp2_with fail
                          refine cx_use (x := ((ivA L k).r, (ivA L k).s, (ivA L k).e)) (y := ((ivA L V).r, (ivA L V).s, (ivA L V).e)) (vs := vs31 lb lo L.length cap (w.heap.size + 1) m p k V ((ivA L k).r, (ivA L k).s, (ivA L k).e) ((ivA L V).r, (ivA L V).s, (ivA L V).e)) rfl (fun A hA => ?_) ?_
                          · subst hA
                            exact region31 _ wr lb lo L.length cap (w.heap.size + 1) m p k V _ _ rfl rfl rfl rfl rfl hpm hkl hV g0 k0 k1 k2 v0 v1 v2
                          intro f w5 b b' hx5 f11 f12 r1 r2
                          have B5 := hide ((unhide hB).ext hx5)
                          have a0 := k_rowC r1 0 rfl
                          have a2 := k_rowC r1 2 rfl
                          have d0 := k_rowC r2 0 rfl
                          have d2 := k_rowC r2 2 rfl
                          have g5 := hx5.cell g0
                          clear g0 k0 k1 k2 v0 v1 v2 hB hx5 r1 r2
                          rename_i hKK _ _ _ _ _ _
                          refine hKK _ _ ?_
                          clear hKK
                          simp only [setsL, Nat.reduceAdd, List.setIfInBounds_toArray, List.set_cons_zero, List.set_cons_succ, f11, f12]
                          by_cases hw1 : (ivA L V).e < (ivA L k).e
                          · have hcw : cWr (ivA L k) (ivA L V) = true := decide_eq_true (Or.inl hw1)
                            have HE3 : Hd (cWorst L (h2.drop (p + 1)) k = W) := hide (by have h := unhide HE2; rw [if_pos hcw] at h; exact h)
                            clear hcw HE2
                            go_wp2_with fail
                            go_roundw
                            case rel => exact ⟨p + 1, k, by go_num, by omega, rfl, hkl, HE3, B5⟩
                            case measure => simp [intOf]; omega
                          · by_cases hw2 : (ivA L k).e = (ivA L V).e
                            · have hw3 : ((ivA L k).e == (ivA L V).e) = true := by simp [hw2]
                              by_cases hw4 : (ivA L V).r < (ivA L k).r
                              · have hcw : cWr (ivA L k) (ivA L V) = true := decide_eq_true (Or.inr ⟨hw2, hw4⟩)
                                have HE3 : Hd (cWorst L (h2.drop (p + 1)) k = W) := hide (by have h := unhide HE2; rw [if_pos hcw] at h; exact h)
                                clear hcw HE2 hw2
                                go_wp2_with fail
                                go_roundw
                                case rel => exact ⟨p + 1, k, by go_num, by omega, rfl, hkl, HE3, B5⟩
                                case measure => simp [intOf]; omega
                              · have hcw : ¬ cWr (ivA L k) (ivA L V) = true := by unfold cWr; simp; omega
                                have HE3 : Hd (cWorst L (h2.drop (p + 1)) V = W) := hide (by have h := unhide HE2; rw [if_neg hcw] at h; exact h)
                                clear hcw HE2 hw2
                                go_wp2_with fail
                                go_roundw
                                case rel => exact ⟨p + 1, V, by go_num, by omega, rfl, hV, HE3, B5⟩
                                case measure => simp [intOf]; omega
                            · have hcw : ¬ cWr (ivA L k) (ivA L V) = true := by unfold cWr; simp; omega
                              have hw3 : ((ivA L k).e == (ivA L V).e) = false := by simp [hw2]
                              have HE3 : Hd (cWorst L (h2.drop (p + 1)) V = W) := hide (by have h := unhide HE2; rw [if_neg hcw] at h; exact h)
                              clear hcw HE2 hw2
                              go_wp2_with fail
                              go_roundw
                              case rel => exact ⟨p + 1, V, by go_num, by omega, rfl, hV, HE3, B5⟩
                              case measure => simp [intOf]; omega
                        · have hpm2 : ¬ (p : Int) < (m : Int) := by omega
                          have hVW : V = W := by
                            have h := unhide hE
                            rw [List.drop_eq_nil_of_le (by omega), cWorst] at h
                            exact h
                          subst hVW
                          clear hE hp
                          have hTl : i < T1.length := by rw [unhide HT1, List.length_set, plT_len]; exact hlt
                          have hti : T1[i]? = some ((ivA L i).r, -1, -1) := by rw [unhide HT1, List.getElem?_set_self (by rw [plT_len]; exact hlt)]
                          have hcn : c.n ≤ i := by
                            rw [← (unhide HIv).g, ← (unhide HIv).ol]
                            exact List.length_filter_le _ _
                          by_cases hVi : V = i
                          · subst hVi
                            have HC2 := unhide HC
                            rw [if_pos rfl] at HC2
                            have HC3 := hide HC2
                            have p2 := (unhide hB).rO.cell _ (tpV_at hti).2.2
                            have fO := k_rowF (unhide hB).rO (V * 3 + 2)
                            have SS := hide ((unhide hB).set2 hti (c.n : Int))
                            clear HC HC2 hti
                            go_wp2_with fail
                            go_roundw
                            case rel =>
                              refine ⟨V + 1, by go_num, by rw [unhide HC3]; go_num, by omega, hide ?_⟩
                              rw [unhide HC3]
                              have h := unhide SS
                              rw [unhide HT1, List.set_set] at h
                              rw [plT_snoc _ (by rw [(unhide HIv).ol]; exact hlt), (unhide HIv).ol]
                              exact h
                            case measure => simp [intOf]; omega
                          · obtain ⟨q, hq⟩ := (unhide HWm).resolve_left hVi
                            have hoV : c.o[V]? = some (some q, none) := by
                              have h := hq
                              rw [unhide HH2] at h
                              exact (unhide HIv).a q V (cover_at.1 h).1
                            have hqm : q < m := ((unhide HIv).b V q none hoV).2.1
                            have hVlt : V < i := (unhide HIv).lt hoV
                            have hqm2 : (q : Int) < (m : Int) := by omega
                            have hq0 : (0 : Int) ≤ (q : Int) := by omega
                            have hV2 : (V : Int) < (L.length : Int) := by omega
                            have hne2 : ((V : Int) == (i : Int)) = false := by rw [beq_eq_false_iff_ne]; omega
                            have hne3 : ¬ (V : Int) = (i : Int) := by omega
                            have HC2 := unhide HC
                            rw [if_neg hVi, hoV] at HC2
                            have HC3 := hide HC2
                            have hTV : T1[V]? = some ((ivA L V).r, (q : Int), -1) := by
                              rw [unhide HT1, List.getElem?_set_ne (fun e => hVi e.symm), plT_at hV, hoV]
                              rfl
                            have S2 := (unhide hB).set1 hti (q : Int)
                            have hT2V : (T1.set i ((ivA L i).r, (q : Int), -1))[V]? = some ((ivA L V).r, (q : Int), -1) := by rw [List.getElem?_set_ne (fun e => hVi e.symm)]; exact hTV
                            have hT2i : (T1.set i ((ivA L i).r, (q : Int), -1))[i]? = some ((ivA L i).r, (q : Int), -1) := by rw [List.getElem?_set_self hTl]
                            have S3 : CoS w ((wr.setCell ⟨w.heap.size, i * 3 + 1, none⟩ (.int .i64 (q : Int))).setCell ⟨w.heap.size + 1, q, none⟩ (.int .i64 (i : Int))) w.heap.size (w.heap.size + 1) 38 (T1.set i ((ivA L i).r, (q : Int), -1)) (h2.set q (some i)) := S2.setH q (some i)
                            have S4 := S3.set1 hT2V (-1)
                            have hT4V : ((T1.set i ((ivA L i).r, (q : Int), -1)).set V ((ivA L V).r, -1, -1))[V]? = some ((ivA L V).r, -1, -1) := by rw [List.getElem?_set_self (by rw [List.length_set]; exact (List.getElem?_eq_some_iff.1 hTV).1)]
                            have S5 := S4.set2 hT4V (c.n : Int)
                            have w1 := (unhide hB).rO.cell _ (tpV_at hTV).2.1
                            have w2 := (unhide hB).rO.cell _ (tpV_at hti).2.1
                            have w3 := k_rowF (unhide hB).rO (i * 3 + 1)
                            have w4 := S2.rO.cell _ (tpV_at hT2i).2.1
                            have w5 := S2.rH.cell q (os_at hq)
                            have w6 := k_rowF S2.rH q
                            have w7 := S3.rO.cell _ (tpV_at hT2V).2.1
                            have w8 := k_rowF S3.rO (V * 3 + 1)
                            have w9 := S4.rO.cell _ (tpV_at hT4V).2.2
                            have w10 := k_rowF S4.rO (V * 3 + 2)
                            have HS5 := hide S5
                            clear HC HC2 hti hTV hT2V hT2i hT4V S2 S3 S4 S5 hq hoV
                            simp only [oI] at w5
                            go_wp2_with fail
                            go_roundw
                            case rel =>
                              refine ⟨i + 1, by go_num, by rw [unhide HC3]; go_num, by omega, hide ?_⟩
                              rw [unhide HC3]
                              have h := unhide HS5
                              rw [unhide HT1, List.set_set, List.set_set, List.set_comm _ _ (fun e => hVi e.symm)] at h
                              rw [plT_snoc _ (by rw [List.length_set, (unhide HIv).ol]; exact hlt), List.length_set, (unhide HIv).ol, plT_set _ (by rw [(unhide HIv).ol]; omega) (by rw [(unhide HIv).ol]; omega)]
                              exact h
                            case measure => simp [intOf]; omega
          · have hil : i = L.length := by omega
            have hlt2 : ¬ (i : Int) < (L.length : Int) := by omega
            have HF : Hd (cAsg L n.toNat = cUp L m i) := hide (by unfold cAsg; rw [← unhide HM, hil])
            clear hlt hil hi
            go_wp2_with fail
            go_ret
            refine ⟨rfl, ?_, (unhide hS).X⟩
            rw [unhide HF]
            exact (unhide hS).rO

end Go.Proofs.Ytjopfpchbakggaa
