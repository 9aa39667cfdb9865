/- The nest of a graph. -/
import Derived.Test.YtpfjafjpijmckaaGrFi
set_option linter.unusedSimpArgs false
set_option linter.unusedVariables false
set_option maxRecDepth 10000
namespace Go.Proofs.Ytpfjafjpijmckaa
open Go.RowKit

theorem gLook_len (g : List (List Int)) : ∀ (k : Nat) (st : GW) (p : Nat) (F : GW), gLook g k st p = some F → F.met.length ≤ st.met.length + k ∧ F.left.length ≤ st.left.length + k
  | 0, st, p, F, h => by rw [gLook] at h; cases h
  | k + 1, st, p, F, h => by
    rw [gLook] at h
    cases hl : g[p]? with
    | none => rw [hl] at h; cases h
    | some l =>
    cases hx : st.next[p]? with
    | none => rw [hl, hx] at h; cases h
    | some x =>
    rw [hl, hx] at h
    simp only at h
    cases hs : gScan g.length st.shut (l.drop x) with
    | mk c o =>
    rw [hs] at h
    cases o with
    | some to =>
      have := gLook_len g k _ to F h
      simp only [List.length_append, List.length_cons, List.length_nil] at this
      omega
    | none =>
      simp only at h
      cases hb : st.wby[p]? with
      | none => rw [hb] at h; cases h
      | some b =>
      rw [hb] at h
      cases b with
      | none =>
        simp only [Option.some.injEq] at h
        subst h
        simp only [List.length_append, List.length_cons, List.length_nil]
        omega
      | some b =>
        have := gLook_len g k _ b F h
        simp only [List.length_append, List.length_cons, List.length_nil] at this
        omega
theorem gWalk_len {g : List (List Int)} {K : Nat} {F : GW} (h : gWalk g K = some F) : F.met.length ≤ K + 1 ∧ F.left.length ≤ K := by
  unfold gWalk at h
  split at h
  · injection h with h
    subst h
    simp [gNew]
  · have := gLook_len g K _ 0 F h
    simp [gNew] at this
    omega
theorem gKid_bd : ∀ (d : List (Option Nat)) (i : Nat) (ks F : List (List Nat)) (m : Nat), (∀ l ∈ ks, l.length ≤ m) → gKid d i ks = some F → ∀ l ∈ F, l.length ≤ m + d.length
  | [], i, ks, F, m, hb, h => by rw [gKid] at h; injection h with h; subst h; exact hb
  | none :: r, i, ks, F, m, hb, h => by
    rw [gKid] at h
    intro l hl
    have := gKid_bd r _ _ _ m hb h l hl
    simp only [List.length_cons]; omega
  | some a :: r, i, ks, F, m, hb, h => by
    rw [gKid] at h
    split at h
    · cases h
    · rename_i l0 h0
      intro l hl
      have := gKid_bd r _ _ _ (m + 1) (fun x hx => ?_) h l hl
      · simp only [List.length_cons]; omega
      · rcases List.mem_or_eq_of_mem_set hx with hx | hx
        · have := hb x hx; omega
        · subst hx
          have := hb l0 (List.mem_of_getElem? h0)
          rw [List.length_append]
          simp only [List.length_cons, List.length_nil]
          omega
theorem gKids_few {d : List (Option Nat)} {ks : List (List Nat)} (hd : d.length ≤ 1000000) (h : gKids d = some ks) : Few (gUpG ks) ∧ ks.length = d.length := by
  have h1 := gKid_len d 0 _ ks h
  rw [List.length_replicate] at h1
  refine ⟨⟨by unfold gUpG; rw [List.length_map, h1]; exact hd, fun l hl => ?_⟩, h1⟩
  unfold gUpG at hl
  obtain ⟨l0, h0, rfl⟩ := List.mem_map.1 hl
  have := gKid_bd d 0 _ ks 0 (fun l hl => by rw [List.eq_of_mem_replicate hl]; simp) h l0 h0
  rw [List.length_map]
  omega
theorem gDomL_len (K : Nat) (wby num : List (Option Nat)) : ∀ (l es : List Nat) (d F : List (Option Nat)), gDomL K wby num l es d = some F → F.length = d.length
  | [], es, d, F, h => by rw [gDomL] at h; injection h with h; rw [h]
  | _ :: _, [], d, F, h => by rw [gDomL] at h; cases h
  | p :: r, e :: es, d, F, h => by
    rw [gDomL] at h
    split at h
    · split at h
      · cases h
      · have := gDomL_len K wby num r es _ F h
        rw [List.length_set] at this
        exact this
    · cases h
theorem gDoms_len {g : List (List Int)} {K : Nat} {F : List (Option Nat)} (h : gDoms g K = some F) : F.length = g.length := by
  unfold gDoms at h
  split at h
  · cases h
  · split at h
    · cases h
    · have := gDomL_len K _ _ _ _ _ F h
      rw [List.length_replicate] at this
      exact this
theorem RwS.graphR {w0 w : World} {P : Nat} {ls : List (List Nat)} {ads : List (Option Addr × Nat)} (h : RwS w0 w P ls ads) : RepG w (fun q => w0.heap.size ≤ q ∧ q < w.heap.size) (some ⟨P, 0, none⟩) (gUpG ls) := by
  refine Or.inr ⟨P, 0, rfl, ⟨h.bP, k_lt h.rP⟩, fun j l hl => ?_⟩
  unfold gUpG at hl
  rw [List.getElem?_map] at hl
  cases hj : ls[j]? with
  | none => rw [hj] at hl; cases hl
  | some l0 =>
    rw [hj] at hl
    injection hl with hl
    subst hl
    obtain ⟨a, ha, hc⟩ := h.at hj
    refine ⟨a.1, a.2, by rw [Nat.zero_add, List.length_map]; exact hc, ?_⟩
    have ho := h.own j l0 a hj ha
    have hr := h.row hj ha
    rcases hr with hr | ⟨b, o, e, hb, hr⟩
    · exact Or.inl hr
    · refine Or.inr ⟨b, o, e, ?_, hr⟩
      have := ho.lt b (by rw [obk_eq, e]; rfl)
      exact this
theorem gMore_opn (K h : Nat) (z : GZ) : ∀ (k : Nat) (st F : GN), gMore K h z k st = some F → F.opn = []
  | 0, st, F, hh => by rw [gMore] at hh; cases hh
  | k + 1, st, F, hh => by
    rw [gMore] at hh
    split at hh
    · rename_i hg
      injection hh with hh
      subst hh
      simpa using hg
    · split at hh
      · cases hh
      · split at hh
        · cases hh
        · exact gMore_opn K h z k _ F hh
theorem gFind_opn {K h : Nat} {z : GZ} {st F : GN} (hh : gFind K h z st = some F) : F.opn = [] := by
  unfold gFind at hh
  split at hh
  · cases hh
  · split at hh
    · cases hh
    · exact gMore_opn K h z K _ F hh

theorem nst_start {W w : World} {B : Nat} {ga : Option Addr} {n gc : Nat} {ma : Option Addr} {m mc : Nat} {la : Option Addr} {k lc : Nat} {PS : List (List Nat)} {PF PG : List (Option Nat)} {bl lo hi : Nat → Nat} {C : Nat} (D : RDone (RNst B ga n gc ma m mc la k lc PS PF PG) W w bl lo hi C) (h1 : PF.length = n) (h2 : PG.length = n) (h3 : PS.length = n) :
    NsS w W w C (bl 1) (bl 7) (bl 13) (bl 16) (bl 18) (bl 21) (lo 1) (hi 1) n ⟨PS, PF, PG⟩ ⟨List.replicate n false, List.replicate n none, List.replicate n 0, []⟩ none 0 := by
  obtain ⟨k1, a1, a2, a3, a4, a5⟩ := D.al 1 (by show 1 < 22; omega) rfl
  obtain ⟨k7, b1, b2, b3, b4, b5⟩ := D.al 7 (by show 7 < 22; omega) rfl
  obtain ⟨k13, c1, c2, c3, c4, c5⟩ := D.al 13 (by show 13 < 22; omega) rfl
  obtain ⟨k16, d1, d2, d3, d4, d5⟩ := D.al 16 (by show 16 < 22; omega) rfl
  obtain ⟨k18, e1, e2, e3, e4, e5⟩ := D.al 18 (by show 18 < 22; omega) rfl
  obtain ⟨k21, f1, f2, f3, f4, f5⟩ := D.al 21 (by show 21 < 22; omega) rfl
  have ap := fun i j (h1 : i < 22) (h2 : j < 22) (h3 : AlNst i = true) (h4 : AlNst j = true) (h5 : i ≠ j) => D.ap i j h1 h2 h3 h4 h5
  have q1 := ap 1 16 (by omega) (by omega) rfl rfl (by omega)
  have q2 := ap 1 18 (by omega) (by omega) rfl rfl (by omega)
  have q3 := ap 1 21 (by omega) (by omega) rfl rfl (by omega)
  have r1 := ap 7 16 (by omega) (by omega) rfl rfl (by omega)
  have r2 := ap 7 18 (by omega) (by omega) rfl rfl (by omega)
  have r3 := ap 7 21 (by omega) (by omega) rfl rfl (by omega)
  have s1 := ap 13 16 (by omega) (by omega) rfl rfl (by omega)
  have s2 := ap 13 18 (by omega) (by omega) rfl rfl (by omega)
  have s3 := ap 13 21 (by omega) (by omega) rfl rfl (by omega)
  have t1 := ap 16 18 (by omega) (by omega) rfl rfl (by omega)
  have t2 := ap 16 21 (by omega) (by omega) rfl rfl (by omega)
  have t3 := ap 18 21 (by omega) (by omega) rfl rfl (by omega)
  have hl := D.lo
  clear ap
  have k1 : RepG w (fun q => lo 1 ≤ q ∧ q < hi 1) (some ⟨bl 1, 0, none⟩) (gUpG PS) := k1
  have k7 : Row w (bl 7) 3 (os PF) := k7
  have k13 : Row w (bl 13) 3 (os PG) := k13
  have k16 : Row w (bl 16) 4 (bsV (List.replicate n false)) := k16
  have k18 : Row w (bl 18) 3 (os (List.replicate n none)) := k18
  have k21 : Row w (bl 21) 3 (ns (List.replicate n 0)) := k21
  refine ⟨D.ext, ⟨hl, by omega, by omega, by omega⟩, ⟨?_, ?_, ?_, ?_, ?_, ?_, ?_, ?_, ?_, ?_, ?_, ?_, ?_, ?_⟩, ⟨Or.inr (by omega), ?_, ?_, ?_, by omega⟩, D.bx, k7, k13, k16, k18, k21, k1, fun _ _ => rfl, ⟨h1, h2, h3, by simp, by simp, by simp⟩, World.ownsRow_nil _ _ _ _, fun k e => by cases e⟩
  · clear q1 q2 q3 r1 r2 r3 s1 s2 s3 t1 t2 t3; omega
  · clear q1 q2 q3 r1 r2 r3 s1 s2 s3 t1 t2 t3; omega
  · clear q1 q2 q3 r1 r2 r3 s1 s2 s3 t1 t2 t3; omega
  · clear q1 q2 q3 r1 r2 r3 s1 s2 s3 t1 t2 t3; omega
  · clear q1 q2 q3 r1 r2 r3 s1 s2 s3 t1 t2 t3; omega
  · clear q1 q2 q3 r2 r3 s1 s2 s3 t1 t2 t3; omega
  · clear q1 q2 q3 r1 r3 s1 s2 s3 t1 t2 t3; omega
  · clear q1 q2 q3 r1 r2 s1 s2 s3 t1 t2 t3; omega
  · clear q1 q2 q3 r1 r2 r3 s2 s3 t1 t2 t3; omega
  · clear q1 q2 q3 r1 r2 r3 s1 s3 t1 t2 t3; omega
  · clear q1 q2 q3 r1 r2 r3 s1 s2 t1 t2 t3; omega
  · clear q1 q2 q3 r1 r2 r3 s1 s2 s3 t2 t3; omega
  · clear q1 q2 q3 r1 r2 r3 s1 s2 s3 t1 t3; omega
  · clear q1 q2 q3 r1 r2 r3 s1 s2 s3 t1 t2; omega
  · clear q2 q3 r1 r2 r3 s1 s2 s3 t1 t2 t3; omega
  · clear q1 q3 r1 r2 r3 s1 s2 s3 t1 t2 t3; omega
  · clear q1 q2 r1 r2 r3 s1 s2 s3 t1 t2 t3; omega

theorem range_step (n j : Nat) (h : j < n) : (List.range j ++ List.replicate (n - j) 0).set j j = List.range (j + 1) ++ List.replicate (n - (j + 1)) 0 := by
  rw [List.set_append_right _ _ (by simp), List.length_range, Nat.sub_self, show n - j = n - (j + 1) + 1 by omega, List.replicate_succ, List.set_cons_zero, List.range_succ]
  simp

/-- What nestOf answers. -/
def NestE (w : World) (n : Nat) (z : GZ) (st : GN) (e : Ending) (w' : World) : Prop := ∃ wp w0 M Pb F1 L1 H O T lo hi oa oc, e = .returned (.pointer (some ⟨M, 0, none⟩)) ∧ Ext w w0 ∧ NsS wp w0 w' M Pb F1 L1 H O T lo hi n z st oa oc

structure FiI (wp w0 wr : World) (M Pb F1 L1 H O T lo hi n : Nat) (z : GZ) (K : Nat) (met : List Nat) (j : Nat) (st F : GN) (oa : Option Addr) (oc : Nat) : Prop where
  S : NsS wp w0 wr M Pb F1 L1 H O T lo hi n z st oa oc
  eq : gFinds K z (met.take j).reverse st = some F
  op : st.opn = []

set_option maxHeartbeats 8000000 in
theorem nestOf_w (ga : Option Addr) (gc : Nat) (g : List (List Int)) (w : World) (K D : Nat) (z : GZ) (F : GN) (hg : RepG w (In w) ga g) (hf : Few g) (hK : K ≤ 900000) (hD : ∀ l ∈ gPreds g, l.length ≤ D) (hKD : (K + 1) * D ≤ 100000000) (hF : gNest g K = some (z, F)) :
    Calls Try.prog 31 #[.slice ga g.length gc] w (NestE w g.length z F) := by
  unfold gNest at hF
  cases hd : gDoms g K with
  | none => rw [hd] at hF; cases hF
  | some d =>
  rw [hd] at hF
  simp only at hF
  cases hk : gKids d with
  | none => rw [hk] at hF; cases hF
  | some ks =>
  rw [hk] at hF
  simp only at hF
  cases hw : gWalk (gUpG ks) K with
  | none => rw [hw] at hF; cases hF
  | some dn =>
  rw [hw] at hF
  simp only at hF
  cases hfs : gFinds K ⟨gPreds g, gPlaces g.length dn.met, gPlaces g.length dn.left⟩ dn.met.reverse ⟨List.replicate g.length false, List.replicate g.length none, List.range g.length, []⟩ with
  | none => rw [hfs] at hF; cases hF
  | some st1 =>
  rw [hfs] at hF
  simp only [Option.some.injEq, Prod.mk.injEq] at hF
  obtain ⟨rfl, rfl⟩ := hF
  have hgn : g.length ≤ 1000000 := hf.1
  have hdl := gDoms_len hd
  obtain ⟨hkf, hkl⟩ := gKids_few (by omega) hk
  have hul : (gUpG ks).length = g.length := by unfold gUpG; rw [List.length_map, hkl, hdl]
  have hwl := gWalk_len hw
  have hwm := gWalk_met hw
  rw [hul] at hwm
  have H1 := hide (doms_w ga gc g w K d hg hf (by omega) (fun st h => by have := (gWalk_len h).1; omega) hd)
  have H2 := hide (fun (W : World) (b : Nat) (hR : Row W b 3 (os d)) => kids_w d b W ks hR (by omega) hk)
  have H3 := hide (fun (W : World) (P : Nat) (h : RepG W (In W) (some ⟨P, 0, none⟩) (gUpG ks)) => walkOf_w (some ⟨P, 0, none⟩) (gUpG ks).length (gUpG ks) W K dn h hkf (by omega) hw)
  rw [hdl] at H2
  rw [hul] at H3
  have HPr : Hd (∀ W : World, Ext w W → Calls Try.prog 17 #[.slice ga g.length gc] W fun e w' => ∃ b, e = .returned (slV b g.length) ∧ Ext W w' ∧ W.heap.size ≤ b ∧ b < w'.heap.size ∧ RepG w' (fun q => W.heap.size ≤ q ∧ q < w'.heap.size) (some ⟨b, 0, none⟩) (gUpG (gPreds g))) := fun W hx => by
    refine Calls.mono (preds_w ga gc g W (hg.ext hx) hf) ?_
    rintro e w' ⟨P, ads, rfl, s⟩
    rw [gPreds_len]
    exact ⟨P, rfl, s.ext, s.bP, k_lt s.rP, s.graphR⟩
  have HNo : Hd (∀ W : World, Calls Try.prog 29 #[.slice ga g.length gc] W fun e w' => ∃ b, e = .returned (slV b g.length) ∧ Ext W w' ∧ W.heap.size ≤ b ∧ b < w'.heap.size ∧ Row w' b 3 (os (List.replicate g.length none))) := fun W => by
    refine Calls.mono (noneOf_w ga g.length gc W hgn) ?_
    rintro e w' ⟨b, rfl, h1, h2, h3⟩
    rw [List.length_replicate]
    exact ⟨b, rfl, h3, h1, k_lt h2, h2⟩
  have HPl : Hd (∀ (W : World) (l : List Nat) (a : Option Addr) (ac : Nat), l.length ≤ 1000000 → (∀ p ∈ l, p < g.length) → RepI W (In W) a (l.map (fun (x : Nat) => (x : Int))) → Calls Try.prog 43 #[.slice ga g.length gc, .slice a l.length ac] W fun e w' => ∃ b, e = .returned (slV b g.length) ∧ Ext W w' ∧ W.heap.size ≤ b ∧ b < w'.heap.size ∧ Row w' b 3 (os (gPlaces g.length l))) := fun W l a ac h1 h2 h3 => by
    refine Calls.mono (places_w ga g.length gc l a ac (fun _ => True) W hgn h1 h2 h3) ?_
    rintro e w' ⟨b, rfl, q1, q2, q3⟩
    have hl : (gPlaces g.length l).length = g.length := by unfold gPlaces; rw [gPlc_len]; simp
    rw [hl]
    exact ⟨b, rfl, q3, q1, k_lt q2, q2⟩
  have M1 : Hd (∀ W : World, (Instr.makeSlice 35 (.int .i64 (g.length : Int)) (.int .i64 (g.length : Int))).run Try.prog W = .ok (.slice (some ⟨W.heap.size, 0, none⟩) g.length g.length) (W.alloc (nwB g.length))) := fun W => make_bools g.length hgn W
  have M2 : Hd (∀ W : World, (Instr.makeSlice 22 (.int .i64 (g.length : Int)) (.int .i64 (g.length : Int))).run Try.prog W = .ok (.slice (some ⟨W.heap.size, 0, none⟩) g.length g.length) (W.alloc (nwN g.length))) := fun W => make_nats g.length hgn W
  have HFq := hide hfs
  have HWm := hide hwm
  have HWl := hide hwl
  have HKl : Hd (ks.length = g.length) := by unfold Hd; rw [hkl, hdl]
  have HDl := hide hdl
  have HD := hide hD
  have HPn := hide (gPreds_len g)
  clear hg hf hd hk hw hfs hkf hkl hul hwl hwm hD hdl
  go_enter Try.func31, Try.ntmps31
  go_wp2_with (first
    | (go_at_call 9; refine Calls.mono (unhide H1) ?_; rintro e w1 ⟨b, rfl, b1, r1, x1⟩; rw [unhide HDl]; have R1 := hide r1; have X1 := hide x1; clear b1 r1 x1)
    | (go_at_call 46; refine Calls.mono (unhide H2 w1 b (unhide R1)) ?_; rintro e w2 ⟨P, ads, rfl, s2⟩; rw [unhide HKl]; have S2 := hide s2; clear s2)
    | (go_at_call 27; refine Calls.mono (unhide H3 w2 P (unhide S2).graph) ?_; rintro e w3 ⟨B, S, N, Y, ma, mc, la, lc, rfl, s3⟩; have S3 := hide s3; clear s3))
  have Q4 : Hd (w3.cell? ⟨B, 4, none⟩ = some (.slice ma dn.met.length mc)) := (unhide S3).rB.cell 4 rfl
  have Q5 : Hd (w3.cell? ⟨B, 5, none⟩ = some (.slice la dn.left.length lc)) := (unhide S3).rB.cell 5 rfl
  have X3 : Hd (Ext w w3) := ((unhide X1).trans (unhide S2).ext).trans (unhide S3).ext
  refine region_abs (RNst B ga g.length gc ma dn.met.length mc la dn.left.length lc (gPreds g) (gPlaces g.length dn.met) (gPlaces g.length dn.left)) (GNst _ _ _ _ _ _ _ _ _ _ _ _ _) rfl (fun A hA => ?_) ?_
  · subst hA
    have hwl := unhide HWl
    exact regionNst _ w3 B ga g.length gc ma dn.met.length mc la dn.left.length lc (gPreds g) (gPlaces g.length dn.met) (gPlaces g.length dn.left) rfl rfl rfl (unhide Q4) (unhide Q5) (unhide M1) (unhide M2) (fun W hx => unhide HPr W ((unhide X3).trans hx)) (fun W hx => unhide HPl W dn.met ma mc (by omega) (unhide HWm).1 ((own_repI (unhide S3).oM).ext hx)) (fun W hx => unhide HPl W dn.left la lc (by omega) (unhide HWm).2 ((own_repI (unhide S3).oL).ext hx)) (fun W hx => unhide HNo W)
  intro u w4 bl lo hi C D4
  have HPlen : Hd (∀ l, (gPlaces g.length l).length = g.length) := fun l => by unfold gPlaces; rw [gPlc_len]; simp
  have HD4 := hide (nst_start D4 (unhide HPlen _) (unhide HPlen _) (unhide HPn))
  clear D4
  rename_i hKK
  refine hKK _ _ ?_
  clear hKK
  simp only [RNst, setAll, Nat.reduceAdd, List.setIfInBounds_toArray, List.set_cons_zero, List.set_cons_succ]
  generalize bl 1 = Pb at *
  generalize bl 7 = F1 at *
  generalize bl 13 = L1 at *
  generalize bl 16 = H at *
  generalize bl 18 = O at *
  generalize bl 21 = T at *
  generalize lo 1 = lo1 at *
  generalize hi 1 = hi1 at *
  have c5 : w4.cell? ⟨C, 5, none⟩ = some (slV T g.length) := (unhide HD4).rM.cell 5 rfl
  clear H1 H2 H3 HPr HNo HPl M1 M2
  go_wp2_with fail
  go_loopw [40] (fun t wr => ∃ (j : Nat), t = .int .i64 (j : Int) ∧ j ≤ g.length ∧ Hd (NsS w4 w3 wr C Pb F1 L1 H O T lo1 hi1 g.length ⟨gPreds g, gPlaces g.length dn.met, gPlaces g.length dn.left⟩ ⟨List.replicate g.length false, List.replicate g.length none, List.range j ++ List.replicate (g.length - j) 0, []⟩ none 0)) (fun t _ => g.length - (intOf t).toNat)
  case atStart => exact ⟨0, rfl, by omega, by simpa [Hd] using HD4⟩
  case round =>
    clear HD4 c5
    obtain ⟨j, rfl, hj, hI⟩ := hrel
    by_cases hlt : j < g.length
    · have c5 : wr.cell? ⟨C, 5, none⟩ = some (slV T g.length) := (unhide hI).rM.cell 5 rfl
      obtain ⟨y, hy⟩ : ∃ y, (List.range j ++ List.replicate (g.length - j) 0)[j]? = some y := ⟨_, List.getElem?_eq_getElem (by simp; omega)⟩
      have cy := (unhide hI).rT.cell j (ns_at hy)
      have fy := k_rowF (unhide hI).rT j
      have HS' := hide ((unhide hI).setT j j)
      simp only [range_step _ _ hlt] at HS'
      have hlt2 : (j : Int) < (g.length : Int) := by omega
      clear hy
      go_wp2_with fail
      go_roundw
      case rel => exact ⟨j + 1, by go_num, by omega, HS'⟩
      case measure => simp [intOf]; omega
    · obtain rfl : j = g.length := by omega
      have HI1 : Hd (FiI w4 w3 wr C Pb F1 L1 H O T lo1 hi1 g.length ⟨gPreds g, gPlaces g.length dn.met, gPlaces g.length dn.left⟩ K dn.met dn.met.length ⟨List.replicate g.length false, List.replicate g.length none, List.range g.length, []⟩ st1 none 0) := ⟨by have := unhide hI; simpa using this, by rw [List.take_length]; exact unhide HFq, rfl⟩
      have d4 := (unhide hI).ext.cell (unhide Q4)
      have hml : dn.met.length ≤ 1000000 := by have := (unhide HWl).1; omega
      have HFd := hide (fun (W : World) (st F : GN) (oa : Option Addr) (oc h : Nat) (hS : NsS w4 w3 W C Pb F1 L1 H O T lo1 hi1 g.length ⟨gPreds g, gPlaces g.length dn.met, gPlaces g.length dn.left⟩ st oa oc) (h1 : st.opn = []) (h2 : gFind K h ⟨gPreds g, gPlaces g.length dn.met, gPlaces g.length dn.left⟩ st = some F) => find_w w4 w3 W C Pb F1 L1 H O T lo1 hi1 g.length ⟨gPreds g, gPlaces g.length dn.met, gPlaces g.length dn.left⟩ st F oa oc K h D hS hgn (unhide HD) (by rw [h1]; simpa using hKD) h2)
      go_wp2_with fail
      go_loopw [6] (fun t wr => ∃ (j : Nat) (y : Int) (st : GN) (oa : Option Addr) (oc : Nat), t = .int .i64 y ∧ y + 1 = (j : Int) ∧ j ≤ dn.met.length ∧ Hd (FiI w4 w3 wr C Pb F1 L1 H O T lo1 hi1 g.length ⟨gPreds g, gPlaces g.length dn.met, gPlaces g.length dn.left⟩ K dn.met j st st1 oa oc)) (fun t _ => (intOf t + 1).toNat)
      case atStart => exact ⟨dn.met.length, (dn.met.length : Int) - 1, _, none, 0, by go_num, by omega, by omega, HI1⟩
      case round =>
        clear HI1 d4
        obtain ⟨j, y, st, oa, oc, rfl, hy, hj, hI⟩ := hrel
        cases j with
        | zero =>
          obtain rfl : y = -1 := by omega
          have HQ : Hd (st = st1) := by
            have := (unhide hI).eq
            rw [List.take_zero, List.reverse_nil, gFinds] at this
            injection this
          go_wp2_with fail
          go_ret
          have hS := (unhide hI).S
          rw [unhide HQ] at hS
          exact ⟨w4, w3, C, Pb, F1, L1, H, O, T, lo1, hi1, oa, oc, rfl, unhide X3, hS⟩
        | succ j =>
          obtain rfl : y = (j : Int) := by omega
          obtain ⟨x, hx⟩ : ∃ x, dn.met[j]? = some x := ⟨_, List.getElem?_eq_getElem (by omega)⟩
          have heq := (unhide hI).eq
          rw [take_rev hx, gFinds] at heq
          cases hfi : gFind K x ⟨gPreds g, gPlaces g.length dn.met, gPlaces g.length dn.left⟩ st with
          | none => rw [hfi] at heq; cases heq
          | some st2 =>
          rw [hfi] at heq
          simp only at heq
          have HCall := hide (unhide HFd wr st st2 oa oc x (unhide hI).S (unhide hI).op hfi)
          have hop := hide (gFind_opn hfi)
          obtain ⟨mg, rfl, hmc, cx⟩ := own_at (unhide S3).oM hx
          have cx := (unhide hI).S.ext.cell cx
          have d4 := (unhide hI).S.ext.cell (unhide Q4)
          have HEq := hide heq
          have hjl : (j : Int) < (dn.met.length : Int) := by omega
          clear heq hfi hx
          go_wp2_with (go_at_call 47; refine Calls.mono (unhide HCall) ?_; rintro e w5 ⟨rfl, oa5, oc5, s5⟩; have S5 := hide s5; clear s5)
          go_roundw
          case rel => exact ⟨j, (j : Int) - 1, st2, oa5, oc5, by go_num, by omega, by omega, ⟨unhide S5, unhide HEq, unhide hop⟩⟩
          case measure => simp [intOf]

end Go.Proofs.Ytpfjafjpijmckaa
