/- The immediate dominators. -/
import Derived.Test.YtpfjafjpijmckaaGrCo
set_option linter.unusedSimpArgs false
set_option linter.unusedVariables false
set_option maxRecDepth 10000
namespace Go.Proofs.Ytpfjafjpijmckaa
open Go.RowKit

theorem gLook_met (g : List (List Int)) : ∀ (k : Nat) (st : GW) (p : Nat) (F : GW), (∀ x ∈ st.met, x < g.length) → (∀ x ∈ st.left, x < g.length) → gLook g k st p = some F → (∀ x ∈ F.met, x < g.length) ∧ (∀ x ∈ F.left, x < g.length)
  | 0, st, p, F, h1, h2, h => by rw [gLook] at h; cases h
  | k + 1, st, p, F, h1, h2, h => by
    rw [gLook] at h
    cases hl : g[p]? with
    | none => rw [hl] at h; cases h
    | some l =>
    cases hx : st.next[p]? with
    | none => rw [hl, hx] at h; cases h
    | some x =>
    rw [hl, hx] at h
    simp only at h
    have hp : p < g.length := (List.getElem?_eq_some_iff.1 hl).1
    have h3 : ∀ x ∈ st.left ++ [p], x < g.length := fun y hy => by
      rcases List.mem_append.1 hy with hy | hy
      · exact h2 y hy
      · rw [List.mem_singleton.1 hy]; exact hp
    cases hs : gScan g.length st.shut (l.drop x) with
    | mk c o =>
    rw [hs] at h
    cases o with
    | some to =>
      simp only at h
      have ht := gScan_lt g.length st.shut (l.drop x) to (by rw [hs])
      refine gLook_met g k ⟨st.shut.set to true, st.next.set p (x + c), st.wby.set to (some p), st.met ++ [to], st.left⟩ to F (fun y hy => ?_) h2 h
      rcases List.mem_append.1 hy with hy | hy
      · exact h1 y hy
      · rw [List.mem_singleton.1 hy]; exact ht
    | none =>
      simp only at h
      cases hb : st.wby[p]? with
      | none => rw [hb] at h; cases h
      | some b =>
      rw [hb] at h
      cases b with
      | none =>
        simp only [Option.some.injEq] at h
        subst h
        exact ⟨h1, h3⟩
      | some b =>
        simp only at h
        exact gLook_met g k ⟨st.shut, st.next.set p (x + c), st.wby, st.met, st.left ++ [p]⟩ b F h1 h3 h
theorem gWalk_met {g : List (List Int)} {K : Nat} {F : GW} (h : gWalk g K = some F) : (∀ x ∈ F.met, x < g.length) ∧ (∀ x ∈ F.left, x < g.length) := by
  unfold gWalk at h
  split at h
  · injection h with h
    subst h
    exact ⟨fun x hx => by simp [gNew] at hx, fun x hx => by simp [gNew] at hx⟩
  · refine gLook_met g K _ 0 F (fun x hx => ?_) (fun x hx => ?_) h
    · simp [gNew] at hx; omega
    · simp [gNew] at hx
theorem gPred_bd (g : List (List Int)) (hf : Few g) : ∀ l ∈ gPreds g, l.length ≤ 10000000000000 := by
  have h1 : ∀ (n p : Nat) (l : List Int) (ps : List (List Nat)) (M : Nat), (∀ x ∈ ps, x.length ≤ M) → ∀ x ∈ gPredL n p l ps, x.length ≤ M + l.length := by
    intro n p l
    induction l with
    | nil => intro ps M h x hx; exact h x hx
    | cons y r ih =>
      intro ps M h x hx
      rw [gPredL] at hx
      have := ih _ (M + 1) (fun z hz => ?_) x hx
      · simp only [List.length_cons]; omega
      · split at hz
        · rcases List.mem_or_eq_of_mem_set hz with hz | hz
          · have := h z hz; omega
          · subst hz
            rw [List.length_append]
            simp only [List.length_cons, List.length_nil]
            cases hy : ps[y.toNat]? with
            | none => simp [List.getD, hy]
            | some l0 =>
              have := h l0 (List.mem_of_getElem? hy)
              simp [List.getD, hy]
              omega
        · have := h z hz; omega
  have h2 : ∀ (n : Nat) (g : List (List Int)) (p : Nat) (ps : List (List Nat)) (M : Nat), (∀ l ∈ g, l.length ≤ 1000000) → (∀ x ∈ ps, x.length ≤ M) → ∀ x ∈ gPredF n g p ps, x.length ≤ M + 1000000 * g.length := by
    intro n g
    induction g with
    | nil => intro p ps M _ h x hx; exact h x hx
    | cons l r ih =>
      intro p ps M hb h x hx
      rw [gPredF] at hx
      have hl := hb l (List.mem_cons_self ..)
      have := ih (p + 1) _ (M + 1000000) (fun l hl => hb l (List.mem_cons_of_mem _ hl)) (fun z hz => Nat.le_trans (h1 n p l ps M h z hz) (by omega)) x hx
      simp only [List.length_cons]
      omega
  intro l hl
  have := h2 g.length g 0 _ 0 hf.2 (fun x hx => by rw [List.eq_of_mem_replicate hx]; simp) l hl
  have := hf.1
  omega

theorem fr68 (T : Array Value) (h : T.size = 68) : ∃ u : Nat → Value, T = #[u 0, u 1, u 2, u 3, u 4, u 5, u 6, u 7, u 8, u 9, u 10, u 11, u 12, u 13, u 14, u 15, u 16, u 17, u 18, u 19, u 20, u 21, u 22, u 23, u 24, u 25, u 26, u 27, u 28, u 29, u 30, u 31, u 32, u 33, u 34, u 35, u 36, u 37, u 38, u 39, u 40, u 41, u 42, u 43, u 44, u 45, u 46, u 47, u 48, u 49, u 50, u 51, u 52, u 53, u 54, u 55, u 56, u 57, u 58, u 59, u 60, u 61, u 62, u 63, u 64, u 65, u 66, u 67] := by
  refine ⟨fun i => T.getD i undef, ?_⟩
  have e : T = ((List.range T.size).map (fun i => T.getD i undef)).toArray := by
    apply Array.ext
    · simp
    · intro i h1 h2
      simp [h1]
  rw [h] at e
  exact e

/-- While the dominators are found. -/
structure DoI (w3 wr : World) (I n : Nat) (K : Nat) (wby num : List (Option Nat)) (met ent : List Nat) (q : Nat) (d F : List (Option Nat)) : Prop where
  ext : Ext w3 wr
  bI : w3.heap.size ≤ I
  rI : Row wr I 3 (os d)
  len : d.length = n
  eq : gDomL K wby num (met.drop q) (ent.drop q) d = some F

theorem ext_drewN (w : World) (n : Nat) : Ext w (w.drewN n) := by
  induction n with
  | zero => exact Ext.refl _
  | succ n ih => exact Ext.drew ih
theorem DoI.step {w3 wr : World} {I n K : Nat} {wby num : List (Option Nat)} {met ent : List Nat} {q : Nat} {d F : List (Option Nat)} (h : DoI w3 wr I n K wby num met ent q d F) (M x p : Nat) (hx : x < n) (he : gDomL K wby num (met.drop (q + 1)) (ent.drop (q + 1)) (d.set x (some p)) = some F) :
    DoI w3 ((wr.drewN M).setCell ⟨I, x, none⟩ (.int .i64 (p : Int))) I n K wby num met ent (q + 1) (d.set x (some p)) F := by
  refine ⟨(h.ext.trans (ext_drewN wr M)).set h.bI _, h.bI, ?_, by rw [List.length_set]; exact h.len, he⟩
  have := (h.rI.on (ext_drewN wr M)).set x (.int .i64 (oI (some p)))
  rw [os_set] at this
  exact this

set_option maxHeartbeats 8000000 in
theorem doms_w (ga : Option Addr) (gc : Nat) (g : List (List Int)) (w : World) (K : Nat) (F : List (Option Nat)) (hg : RepG w (In w) ga g) (hf : Few g) (hK : K ≤ 1000000) (hkm : ∀ st, gWalk g K = some st → st.met.length ≤ 1000000) (hF : gDoms g K = some F) :
    Calls Try.prog 9 #[.slice ga g.length gc] w (MadeO w F) := by
  unfold gDoms at hF
  cases hw : gWalk g K with
  | none => rw [hw] at hF; cases hF
  | some st =>
  rw [hw] at hF
  simp only at hF
  cases hc : gClimb K g.length st.met st.wby (gPreds g) with
  | none => rw [hc] at hF; cases hF
  | some cl =>
  rw [hc] at hF
  simp only at hF
  have hgn : g.length ≤ 1000000 := hf.1
  have hml := hkm st hw
  have H1 := hide (walkOf_w ga gc g w K st hg hf (by omega) hw)
  have H2 := hide (fun (W : World) (x : Ext w W) => preds_w ga gc g W (hg.ext x) hf)
  have H3 := hide (fun (wv W : World) (B S N Y : Nat) (ma : Option Addr) (mc : Nat) (la : Option Addr) (lc : Nat) (P : Nat) (hS : WlS wv W B S N Y ga gc g.length st ma mc la lc) (hps : RepG W (In W) (some ⟨P, 0, none⟩) (gUpG (gPreds g))) => climbOf_w wv W B S N Y ga gc g.length st ma mc la lc P K (gPreds g) cl hS hgn hml (by omega) (gWalk_met hw).1 hps (gPreds_len g) (gPred_bd g hf) hc)
  have H4 := hide (fun W => noneOf_w ga g.length gc W hgn)
  have HFq := hide hF
  have Hmt := hide (gWalk_met hw).1
  have HPl := hide (gPreds_len g)
  clear hg hf hF hw hc hkm
  go_enter Try.func9, Try.ntmps9
  go_wp2_with (first
    | (go_at_call 27; refine Calls.mono (unhide H1) ?_; rintro e w1 ⟨B, S, N, Y, ma, mc, la, lc, rfl, s1⟩; have S1 := hide s1; clear s1)
    | (go_at_call 17; refine Calls.mono (unhide H2 w1 (unhide S1).ext) ?_; rintro e w2 ⟨P, ads, rfl, s2⟩; rw [unhide HPl]; have S2 := hide s2; clear s2)
    | (go_at_call 28; refine Calls.mono (unhide H3 w w2 B S N Y ma mc la lc P ((unhide S1).on (unhide S2).ext) (unhide S2).graph) ?_; rintro e w3 ⟨C, Nb, U, L, E, wa, wc, rfl, s3⟩; have S3 := hide s3; clear s3)
    | (go_at_call 29; refine Calls.mono (unhide H4 w3) ?_; rintro e w4 ⟨I, rfl, b4, r4, x4⟩; have B4 := hide b4; have R4 := hide r4; have X4 := hide x4; clear b4 r4 x4))
  have HI0 : Hd (DoI w3 w4 I g.length K st.wby cl.num st.met cl.ent 1 (List.replicate g.length none) F) := ⟨unhide X4, unhide B4, unhide R4, by simp, unhide HFq⟩
  have HS1 := hide (((unhide S1).on (unhide S2).ext).on (unhide S3).ext)
  clear HFq H1 H2 H3 H4 R4 X4 B4
  go_loopw [6] (fun t6 wr => ∃ (q : Nat) (d : List (Option Nat)), t6 = .int .i64 (q : Int) ∧ 1 ≤ q ∧ (q ≤ st.met.length ∨ q = 1) ∧ Hd (DoI w3 wr I g.length K st.wby cl.num st.met cl.ent q d F)) (fun t _ => st.met.length - (intOf t).toNat)
  case atStart => exact ⟨1, _, by first | rfl | (simp), by omega, Or.inr rfl, HI0⟩
  case round =>
    clear HI0
    obtain ⟨q, d, rfl, hq1, hq2, hI⟩ := hrel
    have hX := (unhide hI).ext
    have c4 : wr.cell? ⟨B, 4, none⟩ = some (.slice ma st.met.length mc) := hX.cell ((unhide HS1).rB.cell 4 rfl)
    by_cases hlt : q < st.met.length
    · have heq := (unhide hI).eq
      rw [List.drop_eq_getElem_cons hlt] at heq
      obtain ⟨x, hx⟩ : ∃ x, st.met[q]? = some x := ⟨_, List.getElem?_eq_getElem hlt⟩
      have hxe : st.met[q] = x := by rw [List.getElem?_eq_getElem hlt] at hx; injection hx
      rw [hxe] at heq
      have hel : q < cl.ent.length := by rw [(unhide S3).len.2.2.2]; exact hlt
      obtain ⟨en, hen⟩ : ∃ en, cl.ent[q]? = some en := ⟨_, List.getElem?_eq_getElem hel⟩
      have hene : cl.ent[q] = en := by rw [List.getElem?_eq_getElem hel] at hen; injection hen
      rw [List.drop_eq_getElem_cons hel, hene, gDomL] at heq
      cases hb : st.wby[x]? with
      | none => rw [hb] at heq; cases heq
      | some ob =>
      cases ob with
      | none => rw [hb] at heq; cases heq
      | some b =>
      rw [hb] at heq
      simp only at heq
      cases hu : gDomUp cl.num d en K b with
      | none => rw [hu] at heq; cases heq
      | some r =>
      rw [hu] at heq
      simp only at heq
      have hxn : x < g.length := unhide Hmt x (List.mem_of_getElem? hx)
      obtain ⟨mg, rfl, hmc, cx⟩ := own_at (unhide HS1).oM hx
      have cx := hX.cell cx
      have c3 : wr.cell? ⟨B, 3, none⟩ = some (slV Y g.length) := hX.cell ((unhide HS1).rB.cell 3 rfl)
      have cb := hX.cell ((unhide HS1).rY.cell x (os_at hb))
      rw [show oI (some b) = (b : Int) from rfl] at cb
      have d0 : wr.cell? ⟨C, 0, none⟩ = some (slV Nb g.length) := hX.cell ((unhide S3).rC.cell 0 rfl)
      have d3 : wr.cell? ⟨C, 3, none⟩ = some (slV E st.met.length) := hX.cell ((unhide S3).rC.cell 3 rfl)
      have ce := hX.cell ((unhide S3).rE.cell q (ns_at hen))
      have HEq := hide heq
      have HUp := hide hu
      have Hwby := hide hb
      have hq3 : (q : Int) < (st.met.length : Int) := by omega
      have hxn2 : (x : Int) < (g.length : Int) := by omega
      have HNum := hide (fun (p : Nat) (y : Option Nat) (h : cl.num[p]? = some y) => (show p < g.length ∧ wr.cell? ⟨Nb, p, none⟩ = some (.int .i64 (oI y)) from ⟨by rw [← (unhide S3).len.1]; exact (List.getElem?_eq_some_iff.1 h).1, hX.cell ((unhide S3).rNb.cell p (os_at h))⟩))
      clear heq hu hb hx hxe hen hene hel
      have HX2 : Hd (∀ N : Nat, wr.drewN N = wr.drewN N) := fun _ => rfl
      go_wp2_with fail
      refine k_scope_loop 0 (fun k a' w' => ∃ (p : Nat), a'.defers = [] ∧ a'.tmps.size = 68 ∧ a'.tmps[0]? = some (.slice ga g.length gc) ∧ a'.tmps[1]? = some (undef) ∧ a'.tmps[2]? = some (.slice none 0 0) ∧ a'.tmps[3]? = some (.pointer (some ⟨B, 0, none⟩)) ∧ a'.tmps[4]? = some (.pointer (some ⟨C, 0, none⟩)) ∧ a'.tmps[5]? = some (.slice (some ⟨I, 0, none⟩) g.length g.length) ∧ a'.tmps[6]? = some (.int .i64 (q : Int)) ∧ a'.tmps[7]? = some (.int .i64 (p : Int)) ∧ a'.tmps[8]? = some (.slice ga g.length gc) ∧ a'.tmps[9]? = some (.pointer (some ⟨B, 0, none⟩)) ∧ a'.tmps[10]? = some (.pointer (some ⟨B, 0, none⟩)) ∧ a'.tmps[11]? = some (.slice ga g.length gc) ∧ a'.tmps[12]? = some (.slice (some ⟨P, 0, none⟩) g.length g.length) ∧ a'.tmps[13]? = some (.pointer (some ⟨C, 0, none⟩)) ∧ a'.tmps[14]? = some (.slice ga g.length gc) ∧ a'.tmps[15]? = some (.slice (some ⟨I, 0, none⟩) g.length g.length) ∧ a'.tmps[67]? = some (undef) ∧ Hd (gDomUp cl.num d en k p = some r) ∧ ∃ N : Nat, w' = wr.drewN N) rfl ?_ ?_
      · rintro k ⟨T, dd⟩ w' ⟨p, hd, hT, h0, h1, h2, h3, h4, h5, h6, h7, h8, h9, h10, h11, h12, h13, h14, h15, h67, hJ, N, rfl⟩
        obtain rfl : dd = [] := hd
        obtain ⟨u, rfl⟩ := fr68 T hT
        have e0 : u 0 = .slice ga g.length gc := Option.some.inj h0
        have e1 : u 1 = undef := Option.some.inj h1
        have e2 : u 2 = .slice none 0 0 := Option.some.inj h2
        have e3 : u 3 = .pointer (some ⟨B, 0, none⟩) := Option.some.inj h3
        have e4 : u 4 = .pointer (some ⟨C, 0, none⟩) := Option.some.inj h4
        have e5 : u 5 = .slice (some ⟨I, 0, none⟩) g.length g.length := Option.some.inj h5
        have e6 : u 6 = .int .i64 (q : Int) := Option.some.inj h6
        have e7 : u 7 = .int .i64 (p : Int) := Option.some.inj h7
        have e8 : u 8 = .slice ga g.length gc := Option.some.inj h8
        have e9 : u 9 = .pointer (some ⟨B, 0, none⟩) := Option.some.inj h9
        have e10 : u 10 = .pointer (some ⟨B, 0, none⟩) := Option.some.inj h10
        have e11 : u 11 = .slice ga g.length gc := Option.some.inj h11
        have e12 : u 12 = .slice (some ⟨P, 0, none⟩) g.length g.length := Option.some.inj h12
        have e13 : u 13 = .pointer (some ⟨C, 0, none⟩) := Option.some.inj h13
        have e14 : u 14 = .slice ga g.length gc := Option.some.inj h14
        have e15 : u 15 = .slice (some ⟨I, 0, none⟩) g.length g.length := Option.some.inj h15
        have e67 : u 67 = undef := Option.some.inj h67
        rw [e0, e1, e2, e3, e4, e5, e6, e7, e8, e9, e10, e11, e12, e13, e14, e15, e67]
        clear h0 h1 h2 h3 h4 h5 h6 h7 h8 h9 h10 h11 h12 h13 h14 h15 h67 e0 e1 e2 e3 e4 e5 e6 e7 e8 e9 e10 e11 e12 e13 e14 e15 e67 hT
        have hE := unhide hJ
        cases k with
        | zero => rw [gDomUp] at hE; cases hE
        | succ k =>
        rw [gDomUp] at hE
        cases hnm : cl.num[p]? with
        | none => rw [hnm] at hE; cases hE
        | some y =>
        rw [hnm] at hE
        simp only at hE
        obtain ⟨hpn, cy⟩ := unhide HNum p y hnm
        have hpn2 : (p : Int) < (g.length : Int) := by omega
        by_cases hey : (en : Int) < oI y
        · rw [if_pos hey] at hE
          cases hdp : d[p]? with
          | none => rw [hdp] at hE; cases hE
          | some oq =>
          cases oq with
          | none => rw [hdp] at hE; cases hE
          | some q2 =>
          rw [hdp] at hE
          simp only at hE
          have cd := (unhide hI).rI.cell p (os_at hdp)
          rw [show oI (some q2) = (q2 : Int) from rfl] at cd
          have HE := hide hE
          generalize oI y = yy at *
          clear hE hdp hnm
          go_wp2_with fail
          go_quiet (fail)
          go_wp2_with fail
          go_step3
          exact ⟨rfl, k, by omega, q2, rfl, rfl, rfl, rfl, rfl, rfl, rfl, rfl, rfl, rfl, rfl, rfl, rfl, rfl, rfl, rfl, rfl, rfl, rfl, HE, N + nq, rfl⟩
        · rw [if_neg hey] at hE
          injection hE with hE
          subst hE
          generalize oI y = yy at *
          clear hnm
          obtain ⟨z, hz⟩ : ∃ z, d[x]? = some z := ⟨_, List.getElem?_eq_getElem (by rw [(unhide hI).len]; exact hxn)⟩
          have cz := (unhide hI).rI.cell x (os_at hz)
          have fz := k_rowF (unhide hI).rI x
          have HSt := hide (fun M => (unhide hI).step M x p hxn (unhide HEq))
          clear hz
          go_wp2_with fail
          go_quiet (fail)
          go_wp2_with fail
          simp only [Exit.jump, Exit.inBlock, Exit.then]
          go_at_K
          go_wp2_with fail
          go_roundw
          case rel => exact ⟨q + 1, d.set x (some p), by go_num, by omega, by omega, unhide HSt (N + nq)⟩
          case measure => simp [intOf]; omega
      · intro HJ1
        have H1 := hide HJ1
        clear HJ1
        go_wp2_with fail
        go_quiet (fail)
        go_wp2_with fail
        refine wp_label ?_
        rename_i hKK
        exact hKK _ _ (unhide H1 K _ _ ⟨b, rfl, rfl, rfl, rfl, rfl, rfl, rfl, rfl, rfl, rfl, rfl, rfl, rfl, rfl, rfl, rfl, rfl, rfl, rfl, HUp, nq, rfl⟩)
    · have HQ : Hd (d = F) := by
        have := (unhide hI).eq
        rw [List.drop_of_length_le (by omega), gDomL] at this
        injection this
      have hlt2 : ¬ (q : Int) < (st.met.length : Int) := by omega
      go_wp2_with fail
      go_ret
      refine ⟨I, ?_, ?_, by rw [← unhide HQ]; exact (unhide hI).rI, ?_⟩
      · rw [← unhide HQ, (unhide hI).len]; rfl
      · have h1 := (unhide S1).ext.size
        have h2 := (unhide S2).ext.size
        have h3 := (unhide S3).ext.size
        have h4 := (unhide hI).bI
        omega
      · exact (((unhide S1).ext.trans (unhide S2).ext).trans (unhide S3).ext).trans (unhide hI).ext

end Go.Proofs.Ytpfjafjpijmckaa
