/- The code of functions whose names mean that: programOf. -/
import Derived.Test.YtlgdjeiendmniaaGreatDoorZg37
set_option linter.unusedSimpArgs false
set_option linter.unusedVariables false
set_option maxRecDepth 10000

namespace Go.Proofs.YtlgdjeiendmniaaGreatDoor
open Go.RowKit

variable {g : Nat} {w w' w2 : World}

def PrRes (K : Nat) (fs : List PFn) (R : Option (List V.KF)) (e : Int) (fns : List V.KF) (m : Int) : Prop := (R = none ∧ e = 5 ∧ fns = [] ∧ m = 0) ∨ (∃ F b, R = some F ∧ F.all kfOk = true ∧ gGreat K F F.length 0 = some b ∧ ((b = true ∧ e = 5 ∧ fns = [] ∧ m = 0) ∨ (b = false ∧ e = 0 ∧ fns = F ∧ m = mainIx fs 0)))
theorem gPrg_res {f K : Nat} {fs : List PFn} {sc : List PSc} {e : Int} {fns : List V.KF} {m : Int} (h : gPrg f K fs sc = some (e, fns, m)) : ∃ R, gFns f fs sc 0 [] = some R ∧ PrRes K fs R e fns m := by
  unfold gPrg at h
  cases hq : gFns f fs sc 0 [] with
  | none => rw [hq] at h; cases h
  | some R =>
    refine ⟨R, rfl, ?_⟩
    rw [hq] at h
    cases R with
    | none =>
      simp only at h
      injection h with h
      injection h with h1 h
      injection h with h2 h3
      exact Or.inl ⟨rfl, h1.symm, h2.symm, h3.symm⟩
    | some F =>
      simp only at h
      split at h
      · rename_i hk
        cases hgq : gGreat K F F.length 0 with
        | none => rw [hgq] at h; cases h
        | some b =>
          rw [hgq] at h
          cases b with
          | true =>
            simp only at h
            injection h with h
            injection h with h1 h
            injection h with h2 h3
            exact Or.inr ⟨F, true, rfl, hk, hgq, Or.inl ⟨rfl, h1.symm, h2.symm, h3.symm⟩⟩
          | false =>
            simp only at h
            injection h with h
            injection h with h1 h
            injection h with h2 h3
            exact Or.inr ⟨F, false, rfl, hk, hgq, Or.inr ⟨rfl, h1.symm, h2.symm, h3.symm⟩⟩
      · cases h
theorem kfB_of {F : List V.KF} (h : F.all kfOk = true) : V.KfB F := by
  intro f hf
  have h1 := List.all_eq_true.1 h f hf
  unfold kfOk at h1
  rw [Bool.and_eq_true, Bool.and_eq_true] at h1
  obtain ⟨h1, h2, h3⟩ := h1
  exact ⟨of_decide_eq_true h1, of_decide_eq_true h2, fun i hi => of_decide_eq_true (List.all_eq_true.1 h3 i hi)⟩
theorem infoSf : (Tryz.prog.info? 31).map (fun i => (i.zero, i.size, i.bytes)) = some (some (.agg #[.string ⟨#[]⟩, .int .i64 0, .int .i64 0, .slice none 0 0, .slice none 0 0]), 5, 80) := by kernel_rfl
theorem one_kf (f : V.KF) (a : KAd) : ∀ u ∈ kfC f a, u.oneCell' = true := by
  intro u hu
  simp at hu
  rcases hu with rfl | rfl | rfl | rfl | rfl <;> rfl
theorem enterFn (v u t : Value) (w : World) : (callFunc 17 #[v, u, t]).run Tryz.prog w = .ok (.enter 17 #[v, u, t]) w := by kernel_rfl

/-- New behind w, but for its first block. -/
def Up (w w' : World) (q : Nat) : Prop := w.heap.size < q ∧ q < w'.heap.size
theorem wp_one {P : Program} {c : Code} {Q : Exit → Act → World → Prop} {a : Act} {w : World} (h : ∃ A W, Code.wp P c (Nrm (fun _ a' w' => a' = A ∧ w' = W)) a w ∧ Q .normal A W) : Code.wp P c Q a w := by
  obtain ⟨A, W, h1, h2⟩ := h
  refine Code.wp_mono (fun e a' w' hq => ?_) h1
  cases e <;> first | (obtain ⟨rfl, rfl⟩ := hq; exact h2) | exact hq.elim
theorem MF.toExt {W W5 : World} (h : MF g W W5) (x : Ext w W) (hg : w.heap.size ≤ g) : Ext w W5 :=
  { os := h.os.trans x.os, tape := h.tape.trans x.tape, output := h.output.trans x.output, size := Nat.le_trans x.size h.size, block := fun k hk => (h.low k (by omega)).trans (x.block k hk) }

set_option maxHeartbeats 8000000 in
theorem programOf_m (f K : Nat) (fs : List PFn) (sc : List PSc) (e : Int) (fns : List V.KF) (m : Int) (fa sb : Option Addr) (fc scc : Nat) (hK : K ≤ 1000000) (hr : gPrg f K fs sc = some (e, fns, m)) (hF : RepFL w (fun b => b < w.heap.size) fs fa) (hS : RepSc w (fun b => b < w.heap.size) sc sb) (hT : tooP fs = false) (hP : Shp w) (hnm : ∀ p ∈ fs, p.nm.size ≤ 140737488355328) :
    Calls Tryz.prog 9 #[.slice fa fs.length fc, .slice sb sc.length scc] w fun e' w' => ∃ pa pc, e' = .returned (.tuple #[V.kpV pa fns.length pc m, .int .i64 e]) ∧ (e = 0 → V.RepP w' (Up w w') pa fns) ∧ Ext w w' := by
  obtain ⟨R, hR, hres⟩ := gPrg_res hr
  have hf16 : fs.length ≤ 16 := by
    unfold tooP at hT
    rw [Bool.or_eq_false_iff] at hT
    have := of_decide_eq_false hT.1
    omega
  have HR := hide hR
  have HRes := hide hres
  have HF := hide hF
  have HS := hide hS
  have HP := hide hP
  have HNm := hide hnm
  obtain ⟨wz, hwz⟩ : ∃ wz, wz = w.alloc (prO none 0 0 0) := ⟨_, rfl⟩
  have Xz : Ext w wz := by rw [hwz]; exact Ext.alloc _ _
  have HM := hide (tooMany_m (w := wz) fs fa fc (hF.to (fun b hb => ⟨Nat.lt_of_lt_of_le hb Xz.size, Xz.block b hb⟩)) hT)
  have rz : wz.heap[w.heap.size]? = some (prO none 0 0 0) := by rw [hwz]; exact Go.heap_alloc_new w _
  have RZ := hide rz
  have XZ := hide Xz
  obtain ⟨i0, hi, hz0, hz1, hz2⟩ := info_parts infoSf
  have HII := hide hi
  have Z0 := hide hz0
  have Z1 := hide hz1
  have Z2 := hide hz2
  have HWZ := hide hwz
  clear hi hz0 hz1 hz2 hr hR hres hF hS hT hP hnm rz Xz hwz
  go_enter Tryz.func9, Tryz.ntmps9
  go_wp2_with (go_at_call 15; rw [unhide HWZ] at HM; refine Calls.mono (unhide HM) ?_; rintro e1 w1 ⟨rfl, hx⟩; rw [← unhide HWZ] at hx; have X1 := hide ((unhide XZ).trans hx); have RZ1 := hide (hx.row (unhide RZ)); clear hx)
  have hzl : w.heap.size < w1.heap.size := (Array.getElem?_eq_some_iff.1 (unhide RZ1)).1
  go_loopw [7, 15] (fun t7 t15 wr => ∃ (i : Nat) (tk : Int) (acc : List V.KF) (ads : List KAd) (pa : Option Addr) (pc : Nat), t7 = .int .i64 tk ∧ t15 = .int .i64 (i : Int) ∧ i ≤ fs.length ∧ acc.length = i ∧ (0 ≤ tk ∧ tk ≤ 50000) ∧ Hd (PgS w wr w1.heap.size acc ads pa pc) ∧ Hd (wr.heap[w.heap.size]? = some (prO none 0 0 0)) ∧ Hd (gFns f (fs.drop i) (sc.drop i) tk acc = some R)) (fun _ t _ => fs.length - (intOf t).toNat)
  case atStart =>
    refine ⟨0, 0, [], [], none, 0, rfl, rfl, by omega, rfl, by omega, ⟨(unhide X1).trans (Ext.alloc _ _), by omega, Go.heap_alloc_new w1 _, rfl, World.ownsRow_nil _ _ _ _, fun i f a h1 _ => by simp at h1⟩, (Ext.alloc w1 _).row (unhide RZ1), by simpa [Hd] using HR⟩
  case round =>
    obtain ⟨i, tk, acc, ads, pa, pc, rfl, rfl, hi, hacc, htk, hPg, hZ, hE⟩ := hrel
    by_cases hlt : i < fs.length
    · have hlt2 : (i : Int) < (fs.length : Int) := by omega
      obtain ⟨p, hp⟩ : ∃ p, fs[i]? = some p := ⟨_, List.getElem?_eq_getElem hlt⟩
      have hE2 := unhide hE
      rw [List.drop_eq_getElem_cons hlt, (List.getElem?_eq_some_iff.1 hp).2] at hE2
      cases hsd : sc.drop i with
      | nil => rw [hsd, gFns] at hE2; cases hE2
      | cons s q =>
      rw [hsd, gFns] at hE2
      have hsl : i < sc.length := by
        have := congrArg List.length hsd
        simp at this
        omega
      have hsi : sc[i]? = some s := by
        have := List.drop_eq_getElem_cons hsl
        rw [hsd] at this
        injection this with h1 h2
        rw [List.getElem?_eq_getElem hsl, h1]
      have hq : q = sc.drop (i + 1) := by
        have := List.drop_eq_getElem_cons hsl
        rw [hsd] at this
        injection this with h1 h2
      have hsl2 : (i : Int) < (sc.length : Int) := by omega
      have X0 := hide (unhide hPg).ext
      obtain ⟨fb, fo, e1, hFn⟩ := FnAt.of (unhide HF) hp (Nat.le_refl _) (fun b hb => (unhide X0).block b hb)
      subst e1
      cases hcp : canP 100000 p.bd with
      | none => rw [hcp] at hE2; cases hE2
      | some cb =>
      rw [hcp] at hE2
      have HC := hide (canL_m (g := w.heap.size) 100000 cb ((unhide HP).ext (unhide X0)) (unhide X0).size hFn.2.2 hcp)
      have HAc := hide hacc
      have hab : acc.length ≤ 16 := by omega
      clear hcp hE hsd hacc
      cases cb with
      | false =>
        simp only at hE2
        injection hE2 with hE2
        subst hE2
        obtain ⟨rfl, rfl, rfl⟩ : e = 5 ∧ fns = [] ∧ m = 0 := by
          rcases unhide HRes with ⟨_, h⟩ | ⟨F, b, h1, _⟩
          · exact h
          · cases h1
        go_wp2_with (go_at_call 16; refine Calls.mono (unhide HC) ?_; rintro e2 w3 ⟨rfl, hx⟩; have X3 := hide ((unhide X0).trans hx); have RZ3 := hide (hx.row (unhide hZ)); have z0 := rowC (unhide RZ3) 0 rfl; have z1 := rowC (unhide RZ3) 1 rfl; have zf := rowF (unhide RZ3); clear hx)
        have hX := ((unhide X3).set (p := ⟨w.heap.size, 0, none⟩) (Nat.le_refl _) (.slice none 0 0)).set (p := ⟨w.heap.size, 1, none⟩) (Nat.le_refl _) (.int .i64 0)
        exact bodyPost_ret (v := .tuple #[V.kpV none 0 0 0, .int .i64 5]) (by simp [results, Tryz.results9, go_sem, z0, z1]) rfl ⟨none, 0, rfl, (fun h => by cases h), hX⟩
      | true =>
        simp only at hE2
        cases hfn : gFn f p.bd s.cl tk with
        | none => rw [hfn] at hE2; cases hE2
        | some mm =>
        rw [hfn] at hE2
        simp only at hE2
        have hok : (⟨[], [], s.cl, tk⟩ : GM).ok = true := by
          unfold GM.ok
          simp
          omega
        obtain ⟨m1, hm1, em, hok1, etk⟩ := gS_tk hok hfn
        rw [hq] at hE2
        have HE2 := hide hE2
        have hnm := unhide HNm p (List.mem_of_getElem? hp)
        have HFn : Hd (∀ (W : World) (g : Nat), Ext w W → w.heap.size ≤ g → FnAt W g p fb (fo + i * 7)) := fun W g hX hg => by
          obtain ⟨fb2, fo2, e2, h2⟩ := FnAt.of (g := g) (unhide HF) hp hg (fun b hb => hX.block b hb)
          injection e2 with e2
          injection e2 with e2 e3
          subst e2 e3
          exact h2
        have HSc : Hd (∀ W, Ext w W → ∃ b sa scp ca cc, sb = some ⟨b, 0, none⟩ ∧ W.cell? ⟨b, i * 3, none⟩ = some (.int .i64 s.lc) ∧ W.cell? ⟨b, i * 3 + 1, none⟩ = some (.slice sa s.sl.length scp) ∧ W.cell? ⟨b, i * 3 + 2, none⟩ = some (.slice ca s.cl.length cc) ∧ s.cl.length ≤ cc ∧ b < w.heap.size ∧ RepO W (fun b => b < w.heap.size) s.cl ca) := fun W hX => scAt (unhide HS) i s hsi (fun b hb => hX.block b hb)
        have HFx := hide (fun (W : World) (g : Nat) (sv : Value) (hN : FnAt W g p fb (fo + i * 7)) (hM : MK g W ⟨[], [], s.cl, tk⟩ sv (.pointer none)) => function_m f p s.lc _ m1 hm1 hok hnm hN hM)
        clear hE2 hfn hm1 hFn hp hsi hq
        go_wp2_with (go_at_call 16; refine Calls.mono (unhide HC) ?_; rintro e2 w3 ⟨rfl, hx⟩; have X3 := hide ((unhide X0).trans hx); have RZ3 := hide (hx.row (unhide hZ)); have PG3 := hide ((unhide hPg).on hx); obtain ⟨sbb, sa, scp, ca, cc, e3, n0, n1, n2, hcc, hsbl, hRO⟩ := unhide HSc w3 (unhide X3); subst e3; have HRO := hide hRO; clear hx hRO)
        have hsb3 : sbb < w3.heap.size := Nat.lt_of_lt_of_le hsbl (unhide X3).size
        have hsb4 : sbb ≠ w3.heap.size := by omega
        refine wp_one ?_
        apply Exists.intro
        apply Exists.intro
        apply And.intro
        · go_region_law (first | fail)
          all_goals exact nrm_out ⟨rfl, rfl⟩
        · obtain ⟨W4, hW4⟩ : ∃ W4, W4 = (w3.alloc (.cells #[.slice none 0 0, .slice none 0 0, .slice sa s.sl.length scp, .slice ca s.cl.length cc, .int .i64 tk, .pointer none] 67)).drew := ⟨_, rfl⟩
          rw [← hW4]
          have x4 : Ext w3 W4 := by rw [hW4]; exact Ext.drew (Ext.alloc _ _)
          have hs4 : w3.heap.size < W4.heap.size := by rw [hW4]; simp
          have r4 : W4.heap[w3.heap.size]? = some (mkO (.slice none 0 0) (.slice none 0 0) (.slice sa s.sl.length scp) (.slice ca s.cl.length cc) tk (.pointer none)) := by rw [hW4]; exact Go.heap_alloc_new w3 _
          have hwg : w.heap.size ≤ w3.heap.size := (unhide X3).size
          have M4 : MK w3.heap.size W4 ⟨[], [], s.cl, tk⟩ (.slice sa s.sl.length scp) (.pointer none) := MK.init r4 hcc ((unhide HRO).to (fun b hb => ⟨by omega, x4.block b (by omega)⟩))
          have X4 := hide ((unhide X3).trans x4)
          have M4d : MK w3.heap.size W4.drew ⟨[], [], s.cl, tk⟩ (.slice sa s.sl.length scp) (.pointer none) := M4.ext (Ext.drew (Ext.refl _))
          have X4d : Hd (Ext w W4.drew) := (unhide X4).trans (Ext.drew (Ext.refl _))
          have HX := hide (unhide HFx W4.drew w3.heap.size _ (unhide HFn W4.drew w3.heap.size (unhide X4d) hwg) M4d)
          have PG4 := hide ((unhide PG3).on x4)
          have RZ4 := hide (x4.row (unhide RZ3))
          have p0 := rowC (unhide PG4).row 0 rfl
          have q0 := x4.cell n0
          have hk4 : Hd (∀ q, q < w3.heap.size → W4.heap[q]? = w3.heap[q]?) := fun q hq => x4.block q hq
          have hbp3 : w1.heap.size < w3.heap.size := (unhide PG3).lt
          rw [← em] at HX
          have hcsb : mm.cs.all gcB = true := by
            rw [em]
            have h5 := (ok_parts hok1).2.2.2.2
            unfold GM.lay GM.give
            split
            · exact h5
            · show (m1.cs ++ [none]).all gcB = true
              rw [List.all_append, h5]
              rfl
          have HCs := hide hcsb
          have HEt := hide etk
          clear n0 n1 n2 x4 M4 M4d hW4 hcsb em etk
          go_wp2_with fail
          refine wp_nrm ?_
          go_region_law (first
            | (refine step_call_threeG rfl 17 (.tmp 9) (.tmp 41) (.tmp 46) 67 69 3 rfl _ _ _ (by simp [Act.eval, Act.put]) (by simp [Act.eval, Act.put]) (by simp [Act.eval, Act.put]) (enterFn _ _ _ _) (Calls.mono (unhide HX) ?_); rintro e5 w5 ⟨ka, kc, ca5, cc5, la, lc2, rfl, hms, hmf⟩; have M5 := hide hms; have X5 : Hd (Ext w w5) := hmf.toExt (unhide X4d) hwg; have hs5 := hmf.size; have K5 : Hd (∀ q, q < w3.heap.size → w5.heap[q]? = w3.heap[q]?) := (fun q hq => (hmf.low q hq).trans (unhide hk4 q hq)); have PG5 := hide ((unhide PG3).keep (unhide X5) (by simp at hs5; omega) (unhide K5)); have RZ5 : Hd (w5.heap[w.heap.size]? = some (prO none 0 0 0)) := (unhide K5 w.heap.size (by omega)).trans (unhide RZ3); have p5 := rowC (unhide PG5).row 0 rfl; have pf5 := rowF (unhide PG5).row; have HOw := hide (fun ob => own_extM (unhide PG5).own (Ext.alloc w5 ob)); have hs5b : w3.heap.size < w5.heap.size := (by simp at hs5; omega); have hbp5 : w1.heap.size < w5.heap.size := (by omega); clear hms hmf; refine ⟨_, rfl, ?_⟩)
            | (refine step_append_where rfl (.tmp 38) (.tmp 48) 22 rfl (w1.heap.size + 1) 31 i0 (.agg #[.string ⟨#[]⟩, .int .i64 0, .int .i64 0, .slice none 0 0, .slice none 0 0]) 5 80 Tryz.underlying22 (unhide HII) (unhide Z0) (unhide Z1) (unhide Z2) rfl (by decide) pa acc.length pc (kfsC acc ads) (by simp [Act.eval, Act.put]) (unhide HOw _) ⟨w5.heap.size, 0, none⟩ 1 1 [.string p.nm, .int .i64 (p.ps.length : Int), .int .i64 s.lc, .slice ca5 mm.cs.length cc5, .slice ka mm.code.length kc] (by simp [Act.eval, Act.put]) (by decide) rfl (cells_new w5 _ _) (by intro u hu; simp at hu; rcases hu with rfl | rfl | rfl | rfl | rfl <;> rfl) (by unfold maxLen; omega) (by omega) (by simp; omega) ?_; intro g6 cap6 w6 ho6 hg6 hw6; have hbp6 : w6.heap[w1.heap.size]? = some (prO pa acc.length pc 0) := (hg6.block w1.heap.size (by simp; omega) (fun e => by have := ((unhide PG5).own.lt w1.heap.size e.symm).1; omega)).trans ((Ext.alloc w5 _).row (unhide PG5).row); have y0 := rowC hbp6 0 rfl; have yf := rowF hbp6; have HO6 := hide ho6; have HG6 := hide hg6; have HW6 := hide hw6; clear ho6 hg6 hw6 hbp6))
          all_goals
            refine nrm_out ?_
            have hkf : kfC ⟨p.nm, (p.ps.length : Int), s.lc, mm.cs.map gcP, mm.code⟩ ((ca5, cc5), (ka, kc)) = [.string p.nm, .int .i64 (p.ps.length : Int), .int .i64 s.lc, .slice ca5 mm.cs.length cc5, .slice ka mm.code.length kc] := by simp [kfC]
            have SP := hide ((unhide PG3).add (unhide PG5) (Nat.le_of_lt hs5b) ⟨p.nm, (p.ps.length : Int), s.lc, mm.cs.map gcP, mm.code⟩ ((ca5, cc5), (ka, kc)) ((unhide M5).rows (unhide HCs)) (unhide HG6) (by rw [hkf]; exact unhide HO6) (by have h9 := unhide HW6; rw [size_alloc] at h9; exact h9))
            have r6 : w6.heap[w3.heap.size]? = some _ := ((unhide HG6).block w3.heap.size (by simp; omega) (fun e9 => by have := ((unhide PG3).own.lt _ e9.symm).2; omega)).trans ((Ext.alloc w5 _).row (unhide M5).row)
            have c4 := rowC r6 4 rfl
            have hbz : w6.heap[w.heap.size]? = some (prO none 0 0 0) := ((unhide HG6).block w.heap.size (by simp; omega) (fun e9 => by have := ((unhide PG3).own.lt _ e9.symm).1; omega)).trans ((Ext.alloc w5 _).row (unhide RZ5))
            have RZ7 : Hd ((w6.setCell ⟨w1.heap.size, 0, none⟩ (.slice (some ⟨g6, 0, none⟩) (acc.length + 1) cap6)).heap[w.heap.size]? = some (prO none 0 0 0)) := (Below.heap_setCell _ _ _ _ (by show w.heap.size ≠ w1.heap.size; omega)).trans hbz
            have hn13 : w1.heap.size ≠ w3.heap.size := by omega
            have htk2 := (ok_parts hok1).2.2
            have hac := unhide HAc
            have HAc2 : Hd ((acc ++ [(⟨p.nm, (p.ps.length : Int), s.lc, mm.cs.map gcP, mm.code⟩ : V.KF)]).length = i + 1) := by show _ = _; rw [List.length_append, hac]; rfl
            clear hac hkf r6 hbz y0 yf p5 pf5
            go_wp2_with fail
            go_roundw
            case rel => exact ⟨i + 1, mm.tk, _, _, _, _, rfl, by go_num, by omega, unhide HAc2, by rw [unhide HEt]; exact ⟨htk2.1, htk2.2.1⟩, SP, RZ7, HE2⟩
            case measure => simp [intOf]; omega
    · obtain rfl : fs.length = i := by omega
      have hE2 := unhide hE
      rw [List.drop_length, gFns] at hE2
      injection hE2 with hE2
      obtain ⟨b, hk, hgr, hfin⟩ : ∃ b, acc.all kfOk = true ∧ gGreat K acc acc.length 0 = some b ∧ ((b = true ∧ e = 5 ∧ fns = [] ∧ m = 0) ∨ (b = false ∧ e = 0 ∧ fns = acc ∧ m = mainIx fs 0)) := by
        rcases unhide HRes with ⟨h, _⟩ | ⟨F, b, h1, h2, h3, h4⟩
        · rw [← hE2] at h; cases h
        · rw [← hE2] at h1
          injection h1 with h1
          subst h1
          exact ⟨b, h2, h3, h4⟩
      have X0 := hide (unhide hPg).ext
      have HG := hide (tooGreat_m acc pa pc 0 K b (V.RepP.to (fun q hq => ⟨hq.1, rfl⟩) (unhide hPg).prog) (by omega) (kfB_of hk) hK hgr)
      have p0 := rowC (unhide hPg).row 0 rfl
      have p1 := rowC (unhide hPg).row 1 rfl
      have HAc := hide hacc
      clear hE hE2 hgr hk hacc
      rcases hfin with ⟨rfl, rfl, rfl, rfl⟩ | ⟨rfl, rfl, rfl, rfl⟩
      · go_wp2_with (go_at_call 18; refine Calls.mono (unhide HG) ?_; rintro e2 w3 ⟨rfl, hx⟩; have X3 := hide ((unhide X0).trans hx); have RZ3 := hide (hx.row (unhide hZ)); have z0 := rowC (unhide RZ3) 0 rfl; have z1 := rowC (unhide RZ3) 1 rfl; have zf := rowF (unhide RZ3); clear hx)
        have hX := ((unhide X3).set (p := ⟨w.heap.size, 0, none⟩) (Nat.le_refl _) (.slice none 0 0)).set (p := ⟨w.heap.size, 1, none⟩) (Nat.le_refl _) (.int .i64 0)
        exact bodyPost_ret (v := .tuple #[V.kpV none 0 0 0, .int .i64 5]) (by simp [results, Tryz.results9, go_sem, z0, z1]) rfl ⟨none, 0, rfl, (fun h => by cases h), hX⟩
      · have HIx := hide (fun (W : World) (hX : Ext w W) => idxMain (w := W) fs fa fc (by omega) ((unhide HF).to (fun b hb => ⟨Nat.lt_of_lt_of_le hb hX.size, hX.block b hb⟩)))
        rw [← mainIx_f] at HIx
        go_wp2_with (first
          | (go_at_call 18; refine Calls.mono (unhide HG) ?_; rintro e2 w3 ⟨rfl, hx⟩; have X3 := hide ((unhide X0).trans hx); have RZ3 := hide (hx.row (unhide hZ)); have PG3 := hide ((unhide hPg).on hx); clear hx p0 p1)
          | (go_at_call 19; refine Calls.mono (unhide HIx w3 (unhide X3)) ?_; rintro e2 w4 ⟨rfl, hx⟩; have X4 := hide ((unhide X3).trans hx); have RZ4 := hide (hx.row (unhide RZ3)); have PG4 := hide ((unhide PG3).on hx); have p0 := rowC (unhide PG4).row 0 rfl; have p1 := rowC (unhide PG4).row 1 rfl; have pf := rowF (unhide PG4).row; have z0 := rowC (unhide RZ4) 0 rfl; have z1 := rowC (unhide RZ4) 1 rfl; have zf := rowF (unhide RZ4); have hne2 : w.heap.size ≠ w1.heap.size := (by omega); clear hx))
        have hX := (((unhide X4).set (p := ⟨w1.heap.size, 1, none⟩) (by show w.heap.size ≤ w1.heap.size; omega) (.int .i64 (mainIx fs 0))).set (p := ⟨w.heap.size, 0, none⟩) (Nat.le_refl _) (.slice pa fns.length pc)).set (p := ⟨w.heap.size, 1, none⟩) (Nat.le_refl _) (.int .i64 (mainIx fs 0))
        have hsz : (((w4.setCell ⟨w1.heap.size, 1, none⟩ (.int .i64 (mainIx fs 0))).setCell ⟨w.heap.size, 0, none⟩ (.slice pa fns.length pc)).setCell ⟨w.heap.size, 1, none⟩ (.int .i64 (mainIx fs 0))).heap.size = w4.heap.size := by simp [World.setCell]
        have hRp : V.RepP (((w4.setCell ⟨w1.heap.size, 1, none⟩ (.int .i64 (mainIx fs 0))).setCell ⟨w.heap.size, 0, none⟩ (.slice pa fns.length pc)).setCell ⟨w.heap.size, 1, none⟩ (.int .i64 (mainIx fs 0))) (Up w (((w4.setCell ⟨w1.heap.size, 1, none⟩ (.int .i64 (mainIx fs 0))).setCell ⟨w.heap.size, 0, none⟩ (.slice pa fns.length pc)).setCell ⟨w.heap.size, 1, none⟩ (.int .i64 (mainIx fs 0)))) pa fns := V.RepP.to (fun q hq => ⟨⟨by omega, by show q < (((w4.setCell ⟨w1.heap.size, 1, none⟩ (.int .i64 (mainIx fs 0))).setCell ⟨w.heap.size, 0, none⟩ (.slice pa fns.length pc)).setCell ⟨w.heap.size, 1, none⟩ (.int .i64 (mainIx fs 0))).heap.size; rw [hsz]; exact hq.1⟩, by
          rw [Below.heap_setCell _ _ _ _ (by show q ≠ w.heap.size; omega), Below.heap_setCell _ _ _ _ (by show q ≠ w.heap.size; omega), Below.heap_setCell _ _ _ _ (by show q ≠ w1.heap.size; omega)]⟩) (unhide PG4).prog
        exact bodyPost_ret (v := .tuple #[V.kpV pa fns.length pc (mainIx fs 0), .int .i64 0]) (by simp [results, Tryz.results9, go_sem, z0, z1]) rfl ⟨pa, ⟨pc, rfl⟩, hRp, hX⟩

end Go.Proofs.YtlgdjeiendmniaaGreatDoor
