/- The entries of all numbers. -/
import Derived.Test.YtpfjafjpijmckaaGrEn
import Derived.Deep.RegionWith
set_option linter.unusedSimpArgs false
set_option linter.unusedVariables false
set_option maxRecDepth 10000
namespace Go.Proofs.Ytpfjafjpijmckaa
open Go.RowKit

theorem clm_start {W w : World} {B : Nat} {ga : Option Addr} {n gc : Nat} {ma : Option Addr} {m mc : Nat} {PL : List (Option Nat)} {bl lo hi : Nat → Nat} {C : Nat} (D : RDone (RClm B ga n gc ma m mc PL) W w bl lo hi C) (hP : PL.length = n) :
    ClS W w C (bl 8) (bl 10) (bl 12) (bl 14) n m ⟨PL, List.replicate m 0, List.replicate m 0, List.replicate m 0, []⟩ none 0 := by
  obtain ⟨k1, l1, l2, l3, l4, l5⟩ := D.al 8 (by show 8 < 15; omega) rfl
  obtain ⟨k2, m1, m2, m3, m4, m5⟩ := D.al 10 (by show 10 < 15; omega) rfl
  obtain ⟨k3, p1, p2, p3, p4, p5⟩ := D.al 12 (by show 12 < 15; omega) rfl
  obtain ⟨k4, q1, q2, q3, q4, q5⟩ := D.al 14 (by show 14 < 15; omega) rfl
  have a1 := D.ap 8 10 (by show 8 < 15; omega) (by show 10 < 15; omega) rfl rfl (by omega)
  have a2 := D.ap 8 12 (by show 8 < 15; omega) (by show 12 < 15; omega) rfl rfl (by omega)
  have a3 := D.ap 8 14 (by show 8 < 15; omega) (by show 14 < 15; omega) rfl rfl (by omega)
  have a4 := D.ap 10 12 (by show 10 < 15; omega) (by show 12 < 15; omega) rfl rfl (by omega)
  have a5 := D.ap 10 14 (by show 10 < 15; omega) (by show 14 < 15; omega) rfl rfl (by omega)
  have a6 := D.ap 12 14 (by show 12 < 15; omega) (by show 14 < 15; omega) rfl rfl (by omega)
  have hl := D.lo
  exact ⟨D.ext, ⟨hl, by omega, by omega, by omega, by omega⟩, ⟨by omega, by omega, by omega, by omega, by omega, by omega, by omega, by omega, by omega, by omega⟩, D.bx, k1, k2, k3, k4, ⟨hP, by simp, by simp, by simp⟩, World.ownsRow_nil _ _ _ _, fun k e => by cases e⟩

/-- What climbOf answers. -/
def ClimbE (w : World) (n m : Nat) (c : GC) (e : Ending) (w' : World) : Prop := ∃ C Nb U L E wa wc, e = .returned (.pointer (some ⟨C, 0, none⟩)) ∧ ClS w w' C Nb U L E n m c wa wc

/-- From the last number on. -/
structure CoI (w wr : World) (C Nb U L E n m K : Nat) (met : List Nat) (wby : List (Option Nat)) (ps : List (List Nat)) (k : Nat) (c F : GC) (wa : Option Addr) (wc : Nat) : Prop where
  S : ClS w wr C Nb U L E n m c wa wc
  eq : gCls K met wby ps k c = some F

set_option maxHeartbeats 8000000 in
theorem climbOf_w (wv w : World) (B S N Y : Nat) (ga : Option Addr) (gc n : Nat) (st : GW) (ma : Option Addr) (mc : Nat) (la : Option Addr) (lc : Nat) (P K : Nat) (ps : List (List Nat)) (F : GC) (hS : WlS wv w B S N Y ga gc n st ma mc la lc) (hn : n ≤ 1000000) (hm : st.met.length ≤ 1000000) (hK : K ≤ 8000000)
    (hmet : ∀ p ∈ st.met, p < n) (hps : RepG w (In w) (some ⟨P, 0, none⟩) (gUpG ps)) (hpl : ps.length = n) (hpb : ∀ l ∈ ps, l.length ≤ 10000000000000) (hF : gClimb K n st.met st.wby ps = some F) :
    Calls Try.prog 28 #[.pointer (some ⟨B, 0, none⟩), .slice (some ⟨P, 0, none⟩) n n] w (ClimbE w n st.met.length F) := by
  have HM := hide (own_repI hS.oM)
  have HPl : Hd (∀ W : World, Ext w W → Calls Try.prog 43 #[.slice ga n gc, .slice ma st.met.length mc] W fun e w' => ∃ b, e = .returned (slV b n) ∧ Ext W w' ∧ W.heap.size ≤ b ∧ b < w'.heap.size ∧ Row w' b 3 (os (gPlaces n st.met))) := fun W hx => by
    refine Calls.mono (places_w ga n gc st.met ma mc (fun _ => True) W hn hm hmet ((unhide HM).ext hx)) ?_
    rintro e w' ⟨b, rfl, h1, h2, h3⟩
    have hl : (gPlaces n st.met).length = n := by unfold gPlaces; rw [gPlc_len]; simp
    rw [hl]
    exact ⟨b, rfl, h3, h1, k_lt h2, h2⟩
  have hPL : Hd ((gPlaces n st.met).length = n) := by unfold Hd gPlaces; rw [gPlc_len]; simp
  have HEn := hide (fun (W : World) (C Nb U L E : Nat) (c : GC) (wa : Option Addr) (wc : Nat) (k x : Nat) (l : List Nat) (la : Option Addr) (lc : Nat) (c' : GC) (h1 : ClS w W C Nb U L E n st.met.length c wa wc) (h2 : l.length ≤ 10000000000000) (h3 : RepI w (In w) la (l.map (fun (x : Nat) => (x : Int)))) (h4 : gEnt K k l k c = some (x, c')) => entry_w w W C Nb U L E n st.met.length c wa wc k K x l la lc c' h1 hm hn hK h2 h3 h4)
  have m2 : ∀ W : World, (Instr.makeSlice 22 (.int .i64 (st.met.length : Int)) (.int .i64 (st.met.length : Int))).run Try.prog W = .ok (.slice (some ⟨W.heap.size, 0, none⟩) st.met.length st.met.length) (W.alloc (nwN st.met.length)) := fun W => make_nats st.met.length hm W
  have M2 := hide m2
  have c4 : w.cell? ⟨B, 4, none⟩ = some (.slice ma st.met.length mc) := hS.rB.cell 4 rfl
  have Q0 : Hd (w.cell? ⟨B, 0, none⟩ = some (.slice ga n gc)) := hS.rB.cell 0 rfl
  have Q4 := hide c4
  have Q3 : Hd (w.cell? ⟨B, 3, none⟩ = some (slV Y n)) := hS.rB.cell 3 rfl
  have HY := hide (fun (p : Nat) (x : Option Nat) (h : st.wby[p]? = some x) => hS.rY.cell p (os_at h))
  have HMt := hide (fun (j x : Nat) (h : st.met[j]? = some x) => own_at hS.oM h)
  have HPs := hide hps
  have HPb := hide hpb
  have HPn := hide hpl
  have HFq := hide hF
  have HMn := hide hmet
  have HYl := hide hS.len.2.2
  clear hS m2 hps hpb hF hmet hpl
  go_enter Try.func28, Try.ntmps28
  go_wp2_with fail
  refine region_abs (RClm B ga n gc ma st.met.length mc (gPlaces n st.met)) (GClm _ _ _ _ _ _ _ _) rfl (fun A hA => ?_) ?_
  · subst hA
    exact regionClm _ w B ga n gc ma st.met.length mc (gPlaces n st.met) rfl rfl rfl (unhide Q0) (unhide Q4) (unhide M2) HPl
  intro u w1 bl lo hi C D
  have HD := hide (clm_start D (unhide hPL))
  clear D
  rename_i hKK
  refine hKK _ _ ?_
  clear hKK c4
  simp only [RClm, setAll, Nat.reduceAdd, List.setIfInBounds_toArray, List.set_cons_zero, List.set_cons_succ]
  generalize bl 8 = Nb at *
  generalize bl 10 = U at *
  generalize bl 12 = L at *
  generalize bl 14 = E at *
  have HI0 : Hd (CoI w w1 C Nb U L E n st.met.length K st.met st.wby ps (st.met.length - 1) ⟨gPlaces n st.met, List.replicate st.met.length 0, List.replicate st.met.length 0, List.replicate st.met.length 0, []⟩ F none 0) := ⟨unhide HD, unhide HFq⟩
  clear HD HFq HPl M2
  go_wp2_with fail
  go_loopw [7] (fun t7 wr => ∃ (k : Nat) (y : Int) (c : GC) (wa : Option Addr) (wc : Nat), t7 = .int .i64 y ∧ (y = (k : Int) ∨ y = -1 ∧ k = 0) ∧ k ≤ st.met.length ∧ Hd (CoI w wr C Nb U L E n st.met.length K st.met st.wby ps k c F wa wc)) (fun t _ => (intOf t).toNat)
  case atStart => exact ⟨st.met.length - 1, (st.met.length : Int) - 1, _, none, 0, by go_num, by omega, by omega, HI0⟩
  case round =>
    clear HI0
    obtain ⟨k, y, c, wa, wc, rfl, hy, hkm, hI⟩ := hrel
    cases k with
    | zero =>
      have hy0 : ¬ (0 : Int) < y := by omega
      have HQ : Hd (c = F) := by have := (unhide hI).eq; rw [gCls] at this; injection this
      clear hy
      go_wp2_with fail
      go_ret
      have hS := (unhide hI).S
      rw [unhide HQ] at hS
      exact ⟨C, Nb, U, L, E, wa, wc, rfl, hS⟩
    | succ k =>
      obtain rfl : y = ((k + 1 : Nat) : Int) := by omega
      have heq := (unhide hI).eq
      rw [gCls] at heq
      generalize hq : k + 1 = q at *
      cases hp : st.met[q]? with
      | none => rw [hp] at heq; cases heq
      | some p =>
      rw [hp] at heq
      simp only at heq
      cases hb : st.wby[p]? with
      | none => rw [hb] at heq; cases heq
      | some ob =>
      cases ob with
      | none => rw [hb] at heq; cases heq
      | some b =>
      cases hl : ps[p]? with
      | none => rw [hb, hl] at heq; cases heq
      | some l =>
      rw [hb, hl] at heq
      simp only at heq
      cases hu : c.num[b]? with
      | none => rw [hu] at heq; cases heq
      | some ou =>
      cases ou with
      | none => rw [hu] at heq; cases heq
      | some un =>
      rw [hu] at heq
      simp only at heq
      cases he : gEnt K q l q ⟨c.num, c.up.set q un, c.low, c.ent, c.way⟩ with
      | none => rw [he] at heq; cases heq
      | some r =>
      obtain ⟨x, c2⟩ := r
      rw [he] at heq
      simp only at heq
      have hX := (unhide hI).S.ext
      have hk1 : q < st.met.length := (List.getElem?_eq_some_iff.1 hp).1
      have hpn : p < n := unhide HMn p (List.mem_of_getElem? hp)
      have hbn : b < n := by rw [← (unhide hI).S.len.1]; exact (List.getElem?_eq_some_iff.1 hu).1
      obtain ⟨mg, rfl, hmc, cp⟩ := unhide HMt q p hp
      have cp := hX.cell cp
      have d4 := hX.cell (unhide Q4)
      have d3 := hX.cell (unhide Q3)
      have cb := hX.cell (unhide HY p (some b) hb)
      rw [show oI (some b) = (b : Int) from rfl] at cb
      have e0 : wr.cell? ⟨C, 0, none⟩ = some (slV Nb n) := (unhide hI).S.rC.cell 0 rfl
      have e1 : wr.cell? ⟨C, 1, none⟩ = some (slV U st.met.length) := (unhide hI).S.rC.cell 1 rfl
      have cu := (unhide hI).S.rNb.cell b (os_at hu)
      rw [show oI (some un) = (un : Int) from rfl] at cu
      obtain ⟨z, hz⟩ : ∃ z, c.up[q]? = some z := ⟨_, List.getElem?_eq_getElem (by rw [(unhide hI).S.len.2.1]; exact hk1)⟩
      have cz := (unhide hI).S.rU.cell q (ns_at hz)
      have fz := k_rowF (unhide hI).S.rU q
      have HS1 := hide (((unhide hI).S.setU q un).on (Ext.drew (Ext.refl _)))
      obtain ⟨pb, po, ia, ic, hpe, _, cpl, rpl⟩ := (unhide HPs).at (j := p) (l := l.map (fun (x : Nat) => (x : Int))) (by unfold gUpG; rw [List.getElem?_map, hl]; rfl)
      injection hpe with hpe
      injection hpe with hpe1 hpe2
      subst hpe1 hpe2
      rw [Nat.zero_add, List.length_map] at cpl
      have hlb := unhide HPb l (List.mem_of_getElem? hl)
      have HCall := hide (fun (W : World) (wa : Option Addr) (wc : Nat) (h1 : ClS w W C Nb U L E n st.met.length ⟨c.num, c.up.set q un, c.low, c.ent, c.way⟩ wa wc) => unhide HEn W C Nb U L E _ wa wc q x l ia ic c2 h1 hlb rpl he)
      have HCpl := hide cpl
      have HEq := hide heq
      have hkk : (0 : Int) < (q : Int) := by omega
      have hk2 : (q : Int) < (st.met.length : Int) := by omega
      have hpn2 : (p : Int) < (n : Int) := by omega
      have hbn2 : (b : Int) < (n : Int) := by omega
      clear heq hp hb hl hu he hz hy rpl cpl
      go_wp2_with fail
      go_still_tail 18, (by kernel_rfl)
      change wpList _ _ _ _ _ (World.drew wr)
      go_wp2_with fail
      clear cp d4 d3 cb e0 e1 cu cz fz hX
      obtain ⟨W1, hW1⟩ : ∃ W1, W1 = (wr.setCell ⟨U, q, none⟩ (.int .i64 (un : Int))).drew := ⟨_, rfl⟩
      rw [← hW1] at HS1 ⊢
      clear hW1
      have e3 : W1.cell? ⟨C, 3, none⟩ = some (slV E st.met.length) := (unhide HS1).rC.cell 3 rfl
      have cpl := (unhide HS1).ext.cell (unhide HCpl)
      have HCall2 := hide (unhide HCall W1.drew wa wc ((unhide HS1).on (Ext.drew (Ext.refl _))))
      go_region_with (go_at_call 44; refine Calls.mono (unhide HCall2) ?_; rintro e w2 ⟨rfl, wa2, wc2, s2⟩; have S2 := hide s2; have g3 : w2.cell? ⟨C, 3, none⟩ = some (slV E st.met.length) := s2.rC.cell 3 rfl; obtain ⟨z2, hz2⟩ : ∃ z, c2.ent[q]? = some z := ⟨_, List.getElem?_eq_getElem (by rw [s2.len.2.2.2]; exact hk1)⟩; have cz2 := s2.rE.cell q (ns_at hz2); have fz2 := k_rowF s2.rE q; clear s2 hz2)
      all_goals
        have HS3 := hide ((unhide S2).setE q x)
        clear cz2 fz2 g3 cpl e3
        obtain ⟨W2, hW2⟩ : ∃ W2, W2 = w2.setCell ⟨E, q, none⟩ (.int .i64 (x : Int)) := ⟨_, rfl⟩
        rw [← hW2] at HS3 ⊢
        clear hW2
        have r2 : W2.cell? ⟨C, 2, none⟩ = some (slV L st.met.length) := (unhide HS3).rC.cell 2 rfl
        have r3 : W2.cell? ⟨C, 3, none⟩ = some (slV E st.met.length) := (unhide HS3).rC.cell 3 rfl
        have hel : q < c2.ent.length := by rw [(unhide S2).len.2.2.2]; exact hk1
        have rx := (unhide HS3).rE.cell q (ns_at (j := q) (x := x) (by rw [List.getElem?_set_self hel]))
        obtain ⟨z3, hz3⟩ : ∃ z, c2.low[q]? = some z := ⟨_, List.getElem?_eq_getElem (by rw [(unhide S2).len.2.2.1]; exact hk1)⟩
        have rz := (unhide HS3).rL.cell q (ns_at hz3)
        have fz := k_rowF (unhide HS3).rL q
        have HS4 := hide (((unhide HS3).setL q x).on (Ext.drew (Ext.refl _)))
        clear hz3 hel
        go_wp2_with fail
        go_still_tail 12, (by kernel_rfl)
        change wpList _ _ _ _ _ (World.drew W2)
        go_wp2_with fail
        go_roundw
        case rel => exact ⟨k, (k : Int), _, wa2, wc2, by go_num, Or.inl rfl, by omega, ⟨unhide HS4, unhide HEq⟩⟩
        case measure => simp [intOf]; omega

end Go.Proofs.Ytpfjafjpijmckaa
