/- GraphTrees: any list. -/
import Derived.Test.YtmhcecofknemkaaGrTc
import Derived.Test.YtmhcecofknemkaaGrGw
import Derived.Test.YtmhcecofknemkaaGrSm
import Derived.Test.YtmhcecofknemkaaGrAw
import Derived.Test.YtmhcecofknemkaaGrCz
set_option linter.unusedSimpArgs false
set_option linter.unusedVariables false
set_option maxRecDepth 10000
namespace Go.Proofs.Ytmhcecofknemkaa
open Go.RowKit

theorem row_repI2 {w : World} {b : Nat} {l : List Int} (h : Row w b 3 (zs l)) : RepI w (In w) (some ⟨b, 0, none⟩) l := Or.inr ⟨b, 0, rfl, k_lt h, fun j x hx => by rw [Nat.zero_add]; exact h.cell j (by rw [zs, List.getElem?_map, hx]; rfl)⟩
/-- What is known of a tree of so many points. -/
structure TrK (n : Nat) (up : Nat → Nat) (ls : List (List Nat)) (O : List Nat) (DM : List Int) : Prop where
  few : Few (gUpG ls)
  len : ls.length = n
  ol : O.length = n
  on : O.Nodup
  olt : ∀ x ∈ O, x < n
  od : ∀ i : Nat, 0 < i → i < n → ∃ a b : Nat, O[a]? = some (up i) ∧ O[b]? = some i ∧ a < b
  dm : DM = (List.range n).map (upF up)
  u1 : ∀ i : Nat, 0 < i → i < n → gDmU DM (up i : Int) n (i : Int) = true
  u2 : ∀ i : Nat, 0 < i → i < n → gDmU DM 0 n (i : Int) = true
  u3 : ∀ i : Nat, 0 < i → i < n → gDmU DM (i : Int) n 0 = false
theorem tree_known (n : Nat) (up : Nat → Nat) (ls : List (List Nat)) (T : TrG n up ls) (h0 : 0 < n) (hn : n ≤ 61) (hb : ∀ (q : Nat) (o : List Nat), ls[q]? = some o → o.length ≤ n) :
    ∃ F d DM, gWalk (gUpG ls) 200 = some F ∧ gDoms (gUpG ls) 200 = some d ∧ d.length = n ∧ d.map oI = DM ∧ gLoops (gUpG ls) 200 = some [] ∧ gCyc (gUpG ls) [] 200 = some false ∧ F.left.length = n ∧ TrK n up ls F.left.reverse DM := by
  have hul : (gUpG ls).length = n := by rw [gUpG_l, T.len]
  obtain ⟨F, hF, _⟩ := gWalk_ends (gUpG ls) 200 (by rw [hul]; omega)
  obtain ⟨D, _, _⟩ := gWalk_dfs (gUpG ls) 200 F (by rw [hul]; omega) hF
  obtain ⟨d, d1, d2⟩ := gDoms_ok (gUpG ls) 200 F (by rw [hul]; omega) hF (by rw [hul]; omega)
  obtain ⟨o1, o2, o3, o4⟩ := T.order 200 F (by omega) hF
  have hdl : d.length = n := by rw [d2.len, hul]
  have hM := nodup_len n F.met D.nd (fun x hx => by have := D.lt x hx; rw [hul] at this; exact this)
  have hmem := T.all D
  have hloops := gLoops_none (gUpG ls) 200 F (by rw [hul]; omega) hF (by rw [hul]; omega) (fun h p hE hp hdom => by
    obtain ⟨e1, e2, e3⟩ := (T.edg p h).1 hE
    have hl := T.lt h e1 e2
    have h1 := T.dom h e1
    have := dom_eq D (hmem h e2) hp hdom (by rw [← e3]; exact h1)
    omega)
  refine ⟨F, d, d.map oI, hF, d1, hdl, rfl, hloops, T.cyc 200 F hF (by omega), o1, ⟨⟨by rw [hul]; omega, fun l hl => ?_⟩, T.len, by rw [List.length_reverse, o1], List.pairwise_reverse.2 (o2.imp (fun h => Ne.symm h)), fun x hx => o3 x (List.mem_reverse.1 hx), fun i hi hin => ?_, ?_, fun i hi hin => ?_, fun i hi hin => ?_, fun i hi hin => ?_⟩⟩
  · unfold gUpG at hl
    obtain ⟨l0, h1, rfl⟩ := List.mem_map.1 hl
    obtain ⟨q, hq⟩ := List.getElem?_of_mem h1
    have := hb q l0 hq
    rw [List.length_map]
    omega
  · obtain ⟨a, b, a1, a2, a3⟩ := o4 i hi hin
    have hal := (List.getElem?_eq_some_iff.1 a1).1
    have hbl := (List.getElem?_eq_some_iff.1 a2).1
    refine ⟨n - 1 - b, n - 1 - a, ?_, ?_, by omega⟩
    · rw [List.getElem?_reverse (by omega), o1, show n - 1 - (n - 1 - b) = b by omega]; exact a2
    · rw [List.getElem?_reverse (by omega), o1, show n - 1 - (n - 1 - a) = a by omega]; exact a1
  · apply List.ext_getElem?
    intro x
    by_cases hx : x < n
    · rw [List.getElem?_map, T.doms D d d2 x hx, List.getElem?_map, List.getElem?_range hx]
      simp only [Option.map_some, upF]
      split <;> rfl
    · rw [List.getElem?_eq_none (by simp; omega), List.getElem?_eq_none (by simp; omega)]
  · have hu := T.lt i hi hin
    obtain ⟨nu, hnu⟩ := List.getElem?_of_mem (hmem (up i) (by omega))
    obtain ⟨ni, hni⟩ := List.getElem?_of_mem (hmem i hin)
    have := (List.getElem?_eq_some_iff.1 hni).1
    exact (gDmU_ok D d d2 hnu n ni i (by omega) hni).2 (T.dom i hi)
  · obtain ⟨ni, hni⟩ := List.getElem?_of_mem (hmem i hin)
    have := (List.getElem?_eq_some_iff.1 hni).1
    exact (gDmU_ok D d d2 D.zero n ni i (by omega) hni).2 (dom_zero i)
  · obtain ⟨ni, hni⟩ := List.getElem?_of_mem (hmem i hin)
    have e := gDmU_ok D d d2 hni n 0 0 (by omega) D.zero
    exact Bool.eq_false_iff.2 (fun hh => absurd (Av.zero (by omega)) (e.1 hh))

theorem TrS.start (w : World) (n : Nat) (up : Nat → Nat) (h0 : 0 < n) : TrS w ((w.alloc (.cells (Array.replicate n (Value.slice none 0 0)) 22)).alloc (.cells ((Array.replicate n (Value.int .i64 0)).setIfInBounds 0 (Value.int .i64 (-1))) 3)) w.heap.size (w.heap.size + 1) n up 1 (List.replicate n []) (List.replicate n (none, 0)) := by
  have e1 : Array.replicate n (Value.slice none 0 0) = (List.replicate n (Value.slice none 0 0)).toArray := by simp
  have e2 : (Array.replicate n (Value.int .i64 0)).setIfInBounds 0 (Value.int .i64 (-1)) = (zs ((List.range 1).map (upF up) ++ List.replicate (n - 1) 0)).toArray := by
    obtain ⟨k, rfl⟩ : ∃ k, n = k + 1 := ⟨n - 1, by omega⟩
    apply Array.ext'
    simp [zs, upF, List.replicate_succ, List.range_succ]
  rw [e1, e2]
  refine ⟨(RwS.new w n).on (Ext.alloc _ _), by simp, by omega, ?_, by omega, fun j a h => ?_, fun a y => ?_, fun q o h => ?_⟩
  · have := Row.new (w.alloc (.cells (List.replicate n (Value.slice none 0 0)).toArray 22)) (zs ((List.range 1).map (upF up) ++ List.replicate (n - 1) 0)) 3
    rw [sz1] at this
    exact this
  · rw [List.eq_of_mem_replicate (List.mem_of_getElem? h)]
    intro e
    cases e
  · rw [List.getD_eq_getElem?_getD, List.getElem?_replicate]
    constructor
    · intro h
      split at h <;> cases h
    · rintro ⟨h1, h2, _⟩
      omega
  · rw [List.eq_of_mem_replicate (List.mem_of_getElem? h)]
    simp

set_option maxHeartbeats 2000000 in
theorem trees_walk (la : Option Addr) (lc : Nat) (l : List Int) (w : World) (hl : RepI w (In w) la l) (hm : l.length ≤ maxLen) :
    Calls Try.prog 3 #[.slice la l.length lc] w fun e w' => e = .returned (.bool true) ∧ Ext w w' := by
  unfold maxLen at hm
  obtain ⟨up, hup⟩ := up_any l
  obtain ⟨m, hmm⟩ : ∃ m : Nat, m = min l.length 60 := ⟨_, rfl⟩
  have hmi : min (l.length : Int) 60 = (m : Int) := by omega
  have hmi2 : (if (60 : Int) < (l.length : Int) then (60 : Int) else (l.length : Int)) = (m : Int) := by split <;> omega
  obtain ⟨n, hn⟩ : ∃ n, n = m + 1 := ⟨_, rfl⟩
  have hn2 : (m : Int) + 1 = (n : Int) := by omega
  have hnl : n ≤ 61 := by omega
  have hn0 : 0 < n := by omega
  have hml : n ≤ l.length + 1 := by omega
  have HL := hide hl
  have HUp := hide hup
  have HA := hide awake_w
  have hmk1 := make_lists n (by omega)
  have hmk2 := make_ints n (by omega)
  clear hl hup hmm hn
  go_enter Try.func3, Try.ntmps3
  go_wp2_with fail
  have HS0 := hide (TrS.start w n up hn0)
  clear hmk1
  go_loopw [6] (fun t wr => ∃ (i : Nat) (ls : List (List Nat)) (ads : List (Option Addr × Nat)), t = .int .i64 (i : Int) ∧ 0 < i ∧ i ≤ n ∧ Hd (TrS w wr w.heap.size (w.heap.size + 1) n up i ls ads)) (fun t _ => n - (intOf t).toNat)
  case atStart => exact ⟨1, _, _, rfl, by omega, by omega, HS0⟩
  case round =>
    clear HS0
    obtain ⟨i, ls, ads, rfl, hi0, hi, hI⟩ := hrel
    by_cases hlt : i < n
    · obtain ⟨k, hk⟩ : ∃ k : Nat, k = i - 1 := ⟨_, rfl⟩
      have hsub : (i : Int) - 1 = (k : Int) := by omega
      have hkl : k < l.length := by omega
      have hkl2 : (k : Int) < (l.length : Int) := by omega
      obtain ⟨x, hx⟩ : ∃ x, l[k]? = some x := ⟨_, List.getElem?_eq_getElem hkl⟩
      obtain ⟨lb, lo, e1, _, cx⟩ := (unhide HL).at hx
      subst e1
      have cx := (unhide hI).S.ext.cell cx
      obtain ⟨hmod, hul⟩ := unhide HUp i x hi0 (by rw [← hk]; exact hx)
      have hi1 : ¬ (i : Int) = 0 := by omega
      have hi2 : ((i : Int) == 0) = false := by rw [beq_eq_false_iff_ne]; exact hi1
      have hlt2 : (i : Int) < (n : Int) := by omega
      obtain ⟨y, hy⟩ : ∃ y, ((List.range i).map (upF up) ++ List.replicate (n - i) 0)[i]? = some y := ⟨_, List.getElem?_eq_getElem (by simp; omega)⟩
      have cy := (unhide hI).rU.cell i (v := .int .i64 y) (by rw [zs, List.getElem?_map, hy]; rfl)
      have fy := k_rowF (unhide hI).rU i
      have huF : upF up i = (up i : Int) := by unfold upF; rw [if_neg (by omega)]
      have hM := (unhide hI).set hlt
      rw [huF] at hM
      have HM := hide hM
      obtain ⟨o, ho⟩ : ∃ o, ls[up i]? = some o := ⟨_, List.getElem?_eq_getElem (by rw [(unhide hI).len]; omega)⟩
      have hob := (unhide hI).bd _ o ho
      have huP : (up i : Int) < (n : Int) := by omega
      clear hM hI hx hy hk
      go_wp2_with fail
      obtain ⟨W1, hW1⟩ : ∃ W1, W1 = wr.setCell ⟨w.heap.size + 1, i, none⟩ (.int .i64 (up i : Int)) := ⟨_, rfl⟩
      rw [← hW1] at HM ⊢
      obtain ⟨a, ha, ca⟩ := (unhide HM).S.at ho
      have hcu : (zs ((List.range (i + 1)).map (upF up) ++ List.replicate (n - (i + 1)) 0))[i]? = some (.int .i64 (up i : Int)) := by
        rw [zs, List.getElem?_map, List.getElem?_append_left (by simp), List.getElem?_map, List.getElem?_range (by omega), Option.map_some, huF]
        rfl
      clear hW1 ca cx cy fy
      refine trees_abs (W0 := w) (W1 := W1) (P := w.heap.size) (U := w.heap.size + 1) (n := n) (i := i) (q := up i) (aa := a.1) (ol := o.length) (ac := a.2) (xs := ns o) (vu := zs ((List.range (i + 1)).map (upF up) ++ List.replicate (n - (i + 1)) 0)) rfl (fun A hA => ?_) ?_
      · subst hA
        exact regionT _ w W1 w.heap.size (w.heap.size + 1) n i (up i) a.1 o.length a.2 (ns o) _ rfl rfl rfl rfl (unhide HM).S.ext hlt (by omega) (by omega) (by omega) (unhide HM).rU hcu (unhide HM).nU ((unhide HM).aU _ a ha) (unhide HM).S.bP ((unhide HM).S.aP _ a ha) _ (unhide HM).S.rP (slC_at _ _ _ _ _ ho ha) (fun ob => ((unhide HM).S.on (Ext.alloc _ ob)).own _ o a ho ha)
      intro u w3 g' cap' D
      have S3 := hide ((unhide HM).push hlt hi0 ho ha D)
      clear D HM ha ho hcu huF
      rename_i hKK
      refine hKK _ _ ?_
      clear hKK
      simp only [setAll, Nat.reduceAdd, List.setIfInBounds_toArray, List.set_cons_zero, List.set_cons_succ]
      go_wp2_with fail
      go_roundw
      case rel => exact ⟨i + 1, _, _, by go_num, by omega, by omega, S3⟩
      case measure => simp [intOf]; omega
    · obtain rfl : i = n := by omega
      have hT : TrG i up ls := ⟨(unhide hI).len, fun k hk hki => (unhide HUp k _ hk (List.getElem?_eq_getElem (by omega))).2, fun a y => (unhide hI).mem a y⟩
      obtain ⟨F, d, DM, hF, hd, hdl, hdm, hlp, hcy, hfl, hK⟩ := tree_known i up ls hT hn0 hnl (unhide hI).bd
      have hul : (gUpG ls).length = i := by rw [gUpG_l, (unhide hI).len]
      have hG := (unhide hI).S.graph
      have hfew := hK.few
      have H1 : Hd (Calls Try.prog 9 #[slV w.heap.size i] wr fun e w' => ∃ b, e = .returned (slV b i) ∧ Row w' b 3 (zs DM) ∧ Ext wr w') := by
        have := doms_w (some ⟨w.heap.size, 0, none⟩) i (gUpG ls) wr 200 d hG hfew (by omega) (fun st hst => by have := (gWalk_len hst).1; omega) hd
        rw [hul] at this
        refine Calls.mono this ?_
        rintro e w1 ⟨b, rfl, _, r, x⟩
        exact ⟨b, by rw [hdl], by have e : zs DM = os d := (by rw [← hdm]; simp [os, zs]); rw [e]; exact r, x⟩
      have H2 : Hd (∀ W, Ext wr W → Calls Try.prog 10 #[slV w.heap.size i] W fun e w' => ∃ oa oc, e = .returned (.slice oa i oc) ∧ RepI w' (In w') oa (F.left.reverse.map (fun (x : Nat) => (x : Int))) ∧ Ext W w') := fun W h => by
        have := order_w (some ⟨w.heap.size, 0, none⟩) i (gUpG ls) W 200 F (hG.ext h) hfew (by omega) hF
        rw [hul, hfl] at this
        exact this
      have H4 : Hd (∀ W, Ext wr W → Calls Try.prog 12 #[slV w.heap.size i] W fun e w' => ∃ pa pc, e = .returned (.slice pa 0 pc) ∧ Ext W w') := fun W h => by
        have hpd : ∀ q ∈ gPreds (gUpG ls), q.length ≤ 10000 := fun q hq => by
          have h1 := gPred_Dt (gUpG ls) i (fun l hl => by
            unfold gUpG at hl
            obtain ⟨l0, h1, rfl⟩ := List.mem_map.1 hl
            obtain ⟨t, ht⟩ := List.getElem?_of_mem h1
            rw [List.length_map]
            exact (unhide hI).bd t l0 ht) q hq
          rw [hul] at h1
          have : i * i ≤ 61 * 61 := Nat.mul_le_mul hnl hnl
          omega
        have := loops_w (some ⟨w.heap.size, 0, none⟩) i (gUpG ls) W 200 10000 [] (hG.ext h) hfew (by omega) hpd (by omega) (by rw [hul]; omega) hlp
        rw [hul] at this
        refine Calls.mono this ?_
        rintro e w1 ⟨w0, pb, pl, ads, pa, pc, rfl, x, s⟩
        exact ⟨pa, pc, rfl, x.trans s.ext⟩
      have H5 : Hd (∀ W, Ext wr W → Calls Try.prog 13 #[slV w.heap.size i, .slice none 0 0] W fun e w' => e = .returned (.bool false) ∧ Ext W w') := fun W h => by
        have := cyclic_w (some ⟨w.heap.size, 0, none⟩) i (gUpG ls) none 0 [] W 200 false (hG.ext h) hfew (Or.inl rfl) (by simp) (by rw [hul]; omega) hcy
        rw [hul] at this
        exact this
      have hDMl : DM.length = i := by rw [← hdm, List.length_map, hdl]
      have H3 : Hd (∀ (W : World) (a b : Nat), Row W a 3 (zs DM) → Row W b 3 (zs DM) → Calls Try.prog 11 #[slV a i, slV b i] W fun e w' => e = .returned (.bool true) ∧ Ext W w') := fun W a b h1 h2 => by
        have := sameInts_w DM _ _ i i _ _ W (row_repI2 h1) (row_repI2 h2) (by omega)
        rw [hDMl] at this
        exact this
      have HDm : Hd (∀ (W : World) (b : Nat) (x y : Int), Row W b 3 (zs DM) → Calls Try.prog 14 #[slV b i, .int .i64 x, .int .i64 y] W fun e w' => e = .returned (.bool (gDmU DM x i y)) ∧ w' = W) := fun W b x y h => by
        have := domi_w DM _ i x y W (row_repI2 h) (by omega)
        rw [hDMl] at this
        exact this
      have hRU : Hd (Row wr (w.heap.size + 1) 3 (zs DM)) := by
        have := (unhide hI).rU
        rw [Nat.sub_self, List.replicate_zero, List.append_nil, ← hK.dm] at this
        exact this
      have HK := hide hK
      have HX0 := hide (unhide hI).S.ext
      generalize F.left.reverse = O at *
      have hmk3 := hide hmk2
      clear hT hF hd hdl hdm hlp hcy hfl hK hG hfew hul hI hDMl HUp HL hmk2
      go_wp2_with (first
        | (go_at_call 9; refine Calls.mono (unhide H1) ?_; rintro e w2 ⟨db, rfl, r2, x2⟩; have R2 := hide r2; have U2 := hide ((unhide hRU).on x2); have X2 : Hd (Ext wr w2) := x2; clear r2 x2)
        | (go_at_call 10; refine Calls.mono (unhide H2 w2 (unhide X2)) ?_; rintro e w3 ⟨oa, oc, rfl, r3, x3⟩; have R3 := hide r3; have R2' := hide ((unhide R2).on x3); have U3 := hide ((unhide U2).on x3); have X3 : Hd (Ext wr w3) := (unhide X2).trans x3; clear r3 x3)
        | (go_at_call 11; refine Calls.mono (unhide H3 w3 db (w.heap.size + 1) (unhide R2') (unhide U3)) ?_; rintro e w4 ⟨rfl, x4⟩; have X4 := hide x4; clear x4)
        | (go_at_call 12; refine Calls.mono (unhide H4 w4 ((unhide X3).trans (unhide X4))) ?_; rintro e w5 ⟨pa, pc, rfl, x5⟩; have X5 : Hd (Ext w3 w5) := (unhide X4).trans x5; clear x5)
        | (go_at_call 13; refine Calls.mono (unhide H5 w5 ((unhide X3).trans (unhide X5))) ?_; rintro e w6 ⟨rfl, x6⟩; have X6 : Hd (Ext w3 w6) := (unhide X5).trans x6; have hmk6 := unhide hmk3 w6; clear x6))
      have HI0 : Hd (AtI w6 (w6.alloc (.cells (Array.replicate i (Value.int .i64 0)) 3)) w6.heap.size i O 0 (List.replicate i 0)) := by
        refine ⟨Ext.alloc _ _, Nat.le_refl _, ?_, by simp, fun k x hk => by omega⟩
        have := Row.new w6 (ns (List.replicate i 0)) 3
        simpa [ns] using this
      have HO6 := hide ((unhide R3).ext (unhide X6))
      have HD6 := hide ((unhide R2').on (unhide X6))
      have HU6 := hide ((unhide U3).on (unhide X6))
      have HXw : Hd (Ext w w6) := ((unhide HX0).trans (unhide X3)).trans (unhide X6)
      clear H1 H2 H3 H4 H5 R2 R2' U2 U3 R3 X2 X3 X4 X5 X6 hRU HX0 hmk3 hmk6
      generalize hnn : i = n at *
      clear hnn
      go_loopw [10] (fun t wr => ∃ (i : Nat) (L : List Nat), t = .int .i64 (i : Int) ∧ i ≤ n ∧ Hd (AtI w6 wr w6.heap.size n O i L)) (fun t _ => n - (intOf t).toNat)
      case atStart => exact ⟨0, _, rfl, by omega, HI0⟩
      case round =>
        clear HI0
        obtain ⟨i, L, rfl, hi, hI⟩ := hrel
        by_cases hlt : i < n
        · obtain ⟨x, hx⟩ : ∃ x, O[i]? = some x := ⟨_, List.getElem?_eq_getElem (by rw [(unhide HK).ol]; exact hlt)⟩
          have hxn := (unhide HK).olt x (List.mem_of_getElem? hx)
          obtain ⟨ob, oo, e1, _, cx⟩ := (unhide HO6).at (j := i) (x := (x : Int)) (by rw [List.getElem?_map, hx]; rfl)
          subst e1
          have cx := (unhide hI).ext.cell cx
          have hlt2 : (i : Int) < (n : Int) := by omega
          have hxn2 : (x : Int) < (n : Int) := by omega
          have hxn3 : ¬ (n : Int) ≤ (x : Int) := by omega
          obtain ⟨y, hy⟩ : ∃ y, L[x]? = some y := ⟨_, List.getElem?_eq_getElem (by rw [(unhide hI).len]; exact hxn)⟩
          have cy := (unhide hI).rA.cell x (ns_at hy)
          have fy := k_rowF (unhide hI).rA x
          have HS := hide ((unhide hI).set (unhide HK).on hx hxn)
          clear hx hy hI
          go_wp2_with fail
          go_roundw
          case rel => exact ⟨i + 1, _, by go_num, by omega, HS⟩
          case measure => simp [intOf]; omega
        · obtain rfl : i = n := by omega
          have hX7 := hide (unhide hI).ext
          have hRA := hide (unhide hI).rA
          have hOk := hide (unhide hI).ok
          have hLl := hide (unhide hI).len
          clear hI
          obtain ⟨w7, hw7⟩ : ∃ w7, w7 = wr := ⟨_, rfl⟩
          subst hw7
          go_wp2_with fail
          go_loopw [11] (fun t wr => ∃ (k : Nat), t = .int .i64 (k : Int) ∧ 0 < k ∧ k ≤ i ∧ Hd (Ext w7 wr)) (fun t _ => i - (intOf t).toNat)
          case atStart => exact ⟨1, rfl, by omega, by omega, Ext.refl _⟩
          case round =>
            obtain ⟨k, rfl, hk0, hk, hX⟩ := hrel
            by_cases hlk : k < i
            · have hne : Nonempty (RGw wr) := ⟨⟨wr, Ext.refl _⟩⟩
              obtain ⟨a, b, a1, a2, a3⟩ := (unhide HK).od k hk0 hlk
              have hal := (List.getElem?_eq_some_iff.1 a1).1
              have hbl := (List.getElem?_eq_some_iff.1 a2).1
              rw [(unhide HK).ol] at hal hbl
              have la := unhide hOk a (up k) hal a1
              have lb := unhide hOk b k hbl a2
              have hux := (unhide HK).olt (up k) (List.mem_of_getElem? a1)
              have hup0 : upF up k = (up k : Int) := by unfold upF; rw [if_neg (by omega)]
              have hcu : (zs DM)[k]? = some (.int .i64 (up k : Int)) := by
                rw [(unhide HK).dm, zs, List.getElem?_map, List.getElem?_map, List.getElem?_range hlk, Option.map_some, hup0]
                rfl
              have k1 : ∀ v : RGw wr, v.w.cell? ⟨w.heap.size + 1, k, none⟩ = some (.int .i64 (up k : Int)) := fun v => v.h.cell ((unhide hX).cell ((unhide hX7).cell ((unhide HU6).cell k hcu)))
              have k2 : ∀ v : RGw wr, v.w.cell? ⟨w6.heap.size, up k, none⟩ = some (.int .i64 (a : Int)) := fun v => v.h.cell ((unhide hX).cell ((unhide hRA).cell (up k) (ns_at la)))
              have k3 : ∀ v : RGw wr, v.w.cell? ⟨w6.heap.size, k, none⟩ = some (.int .i64 (b : Int)) := fun v => v.h.cell ((unhide hX).cell ((unhide hRA).cell k (ns_at lb)))
              have u1 := (unhide HK).u1 k hk0 hlk
              have u2 := (unhide HK).u2 k hk0 hlk
              have u3 := (unhide HK).u3 k hk0 hlk
              have HDq : ∀ (x y : Int) (r : Bool), gDmU DM x i y = r → Hd (∀ W, Ext wr W → Calls Try.prog 14 #[slV db i, .int .i64 x, .int .i64 y] W fun e w' => e = .returned (.bool r) ∧ Ext W w') := fun x y r hr W h => (unhide HDm W db x y ((unhide HD6).on (((unhide hX7).trans (unhide hX)).trans h))).mono (by
                rintro e w' ⟨rfl, rfl⟩
                exact ⟨by rw [hr], Ext.refl _⟩)
              have HQ : Hd (∀ (x y : Int) (r : Bool), ((x = (up k : Int) ∧ y = (k : Int) ∧ r = true) ∨ (x = 0 ∧ y = (k : Int) ∧ r = true) ∨ (x = (k : Int) ∧ y = 0 ∧ r = false)) → ∀ W, Ext wr W → Calls Try.prog 14 #[slV db i, .int .i64 x, .int .i64 y] W fun e w' => e = .returned (.bool r) ∧ Ext W w') := by
                rintro x y r (⟨rfl, rfl, rfl⟩ | ⟨rfl, rfl, rfl⟩ | ⟨rfl, rfl, rfl⟩)
                · exact HDq _ _ _ u1
                · exact HDq _ _ _ u2
                · exact HDq _ _ _ u3
              have hlk2 : (k : Int) < (i : Int) := by omega
              have hux2 : (up k : Int) < (i : Int) := by omega
              have hab : ¬ (b : Int) ≤ (a : Int) := by omega
              have hab2 : decide ((b : Int) ≤ (a : Int)) = false := by rw [decide_eq_false_iff_not]; exact hab
              have hab3 : decide (b ≤ a) = false := by rw [decide_eq_false_iff_not]; omega
              have hab4 : decide ((a : Int) < (b : Int)) = true := by rw [decide_eq_true_iff]; omega
              have hab5 : decide ((a : Int) ≥ (b : Int)) = false := by rw [decide_eq_false_iff_not]; omega
              have hab6 : decide (a < b) = true := by rw [decide_eq_true_iff]; omega
              clear a1 a2 la lb hup0 hcu u1 u2 u3 HDq hal hbl
              go_wp2_with fail
              refine wp_region_rx (W := wr) (by kernel_rfl) (by kernel_rfl) (Ext.refl _) ?_
              try simp only [List.append_eq, List.cons_append, List.nil_append]
              repeat (go_big_quiet_step (first | (go_at_call 14; exact Calls.rx_of _ _ (unhide HQ _ _ _ (by first | exact Or.inl ⟨rfl, rfl, rfl⟩ | exact Or.inr (Or.inl ⟨rfl, rfl, rfl⟩) | exact Or.inr (Or.inr ⟨rfl, rfl, rfl⟩)) _ (RGw.h _)))))
              refine wpQuiet_nil ?_
              rintro _ ⟨⟨w8, hx8⟩, rfl⟩
              have HX8 := hide hx8
              clear hx8
              go_wp2_with fail
              go_roundw
              case rel => exact ⟨k + 1, by go_num, by omega, by omega, (unhide hX).trans (unhide HX8)⟩
              case measure => simp [intOf]; omega
            · obtain rfl : k = i := by omega
              have HXz : Hd (Ext w wr) := ((unhide HXw).trans (unhide hX7)).trans (unhide hX)
              go_wp2_with (go_at_call 15; refine Calls.mono (unhide HA wr) ?_; rintro e w9 ⟨rfl, x9⟩; have X9 : Hd (Ext w w9) := (unhide HXz).trans x9; clear x9)
              go_ret
              exact ⟨rfl, unhide X9⟩

end Go.Proofs.Ytmhcecofknemkaa
