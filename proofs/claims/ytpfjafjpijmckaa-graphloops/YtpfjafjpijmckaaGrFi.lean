/- A Head's Loop is found. -/
import Derived.Test.YtpfjafjpijmckaaGrTk
set_option linter.unusedSimpArgs false
set_option linter.unusedVariables false
set_option maxRecDepth 10000
namespace Go.Proofs.Ytpfjafjpijmckaa
open Go.RowKit

theorem fr69 (T : Array Value) (h : T.size = 69) : ∃ u : Nat → Value, T = #[u 0, u 1, u 2, u 3, u 4, u 5, u 6, u 7, u 8, u 9, u 10, u 11, u 12, u 13, u 14, u 15, u 16, u 17, u 18, u 19, u 20, u 21, u 22, u 23, u 24, u 25, u 26, u 27, u 28, u 29, u 30, u 31, u 32, u 33, u 34, u 35, u 36, u 37, u 38, u 39, u 40, u 41, u 42, u 43, u 44, u 45, u 46, u 47, u 48, u 49, u 50, u 51, u 52, u 53, u 54, u 55, u 56, u 57, u 58, u 59, u 60, u 61, u 62, u 63, u 64, u 65, u 66, u 67, u 68] := by
  refine ⟨fun i => T.getD i undef, ?_⟩
  have e : T = ((List.range T.size).map (fun i => T.getD i undef)).toArray := by
    apply Array.ext
    · simp
    · intro i h1 h2
      simp [h1]
  rw [h] at e
  exact e

/-- What leads to a point, as a row. -/
theorem NsS.pred {wp w0 w : World} {M Pb F1 L1 H O T lo hi n : Nat} {z : GZ} {st : GN} {oa : Option Addr} {oc : Nat} (h : NsS wp w0 w M Pb F1 L1 H O T lo hi n z st oa oc) {p : Nat} {l : List Nat} (hl : z.ps[p]? = some l) : ∃ ia ic, w.cell? ⟨Pb, p, none⟩ = some (.slice ia l.length ic) ∧ RepI wp (fun q => lo ≤ q ∧ q < hi) ia (l.map (fun (x : Nat) => (x : Int))) := by
  obtain ⟨pb, po, ia, ic, hpe, hb, h1, h2⟩ := h.rP.at (j := p) (l := l.map (fun (x : Nat) => (x : Int))) (by unfold gUpG; rw [List.getElem?_map, hl]; rfl)
  injection hpe with hpe
  injection hpe with e1 e2
  subst e1 e2
  rw [Nat.zero_add, List.length_map] at h1
  rw [← World.cell?_of_block (w := wp) (h.sm Pb hb)] at h1
  exact ⟨ia, ic, h1, h2⟩

structure BkI (wp w0 wr : World) (M Pb F1 L1 H O T lo hi n : Nat) (z : GZ) (K h : Nat) (l : List Nat) (j : Nat) (st F : GN) (oa : Option Addr) (oc X : Nat) : Prop where
  S : NsS wp w0 wr M Pb F1 L1 H O T lo hi n z st oa oc
  eq : gBack K h z (l.drop j) st = some F
  ln : st.opn.length ≤ X + j
structure MoI (wp w0 wr : World) (M Pb F1 L1 H O T lo hi n : Nat) (z : GZ) (K h k D : Nat) (st F : GN) (oa : Option Addr) (oc : Nat) : Prop where
  S : NsS wp w0 wr M Pb F1 L1 H O T lo hi n z st oa oc
  eq : gMore K h z k st = some F
  ln : st.opn.length + k * D ≤ 100000000

set_option maxHeartbeats 8000000 in
theorem find_w (wp w0 w : World) (M Pb F1 L1 H O T lo hi n : Nat) (z : GZ) (st F : GN) (oa : Option Addr) (oc : Nat) (K h D : Nat) (hS : NsS wp w0 w M Pb F1 L1 H O T lo hi n z st oa oc) (hn : n ≤ 1000000) (hD : ∀ l ∈ z.ps, l.length ≤ D) (hX : st.opn.length + (K + 1) * D ≤ 100000000) (hF : gFind K h z st = some F) :
    Calls Try.prog 47 #[.pointer (some ⟨M, 0, none⟩), .int .i64 (h : Int)] w (NsE wp w0 M Pb F1 L1 H O T lo hi n z F) := by
  unfold gFind at hF
  cases hl : z.ps[h]? with
  | none => rw [hl] at hF; cases hF
  | some l =>
  rw [hl] at hF
  simp only at hF
  cases hb : gBack K h z l st with
  | none => rw [hb] at hF; cases hF
  | some st1 =>
  rw [hb] at hF
  simp only at hF
  have HT := hide (fun (W : World) (st st' : GN) (oa : Option Addr) (oc p : Nat) (hS : NsS wp w0 W M Pb F1 L1 H O T lo hi n z st oa oc) (h1 : st.opn.length ≤ 100000000) (hF : gTake K h p st = some st') => take_w wp w0 W M Pb F1 L1 H O T lo hi n z st st' oa oc K h p hS hn h1 hF)
  have HA := hide (fun (W : World) (st F : GN) (oa : Option Addr) (oc : Nat) (l : List Nat) (la : Option Addr) (lc : Nat) (hS : NsS wp w0 W M Pb F1 L1 H O T lo hi n z st oa oc) (h1 : st.opn.length + l.length ≤ 100000000) (h2 : RepI wp (fun q => lo ≤ q ∧ q < hi) la (l.map (fun (x : Nat) => (x : Int)))) (hF : gTakes K h z l st = some F) => takeAll_w wp w0 W M Pb F1 L1 H O T lo hi n z st F oa oc K h l la lc hS hn h1 h2 hF)
  have HDm := hide (fun (W : World) (st : GN) (oa : Option Addr) (oc p : Nat) (b : Bool) (hS : NsS wp w0 W M Pb F1 L1 H O T lo hi n z st oa oc) (hF : gDm z h p = some b) => dominates_w wp w0 W M Pb F1 L1 H O T lo hi n z st oa oc h p b hS hF)
  have hlD := hD l (List.mem_of_getElem? hl)
  obtain ⟨ia, ic, ch, ri⟩ := hS.pred hl
  have hhn : h < n := by rw [← hS.len.2.2.1]; exact (List.getElem?_eq_some_iff.1 hl).1
  have hhn2 : (h : Int) < (n : Int) := by omega
  have c0 : w.cell? ⟨M, 0, none⟩ = some (slV Pb n) := hS.rM.cell 0 rfl
  have HI0 : Hd (BkI wp w0 w M Pb F1 L1 H O T lo hi n z K h l 0 st st1 oa oc st.opn.length) := ⟨hS, hb, by omega⟩
  have HR := hide ri
  have HM := hide hF
  have HDl := hide hD
  have hKD : (K + 1) * D = K * D + D := Nat.succ_mul K D
  have hll : l.length ≤ 100000000 := by omega
  clear hS hb hF ri hl hD
  obtain ⟨X, hX0⟩ : ∃ X, X = st.opn.length := ⟨_, rfl⟩
  rw [← hX0] at HI0 hX
  clear hX0
  go_enter Try.func47, Try.ntmps47
  refine k_scope_loop 0 (fun k a' wr => ∃ (st : GN) (oa : Option Addr) (oc : Nat), a'.defers = [] ∧ a'.tmps.size = 69 ∧ a'.tmps[0]? = some (.pointer (some ⟨M, 0, none⟩)) ∧ a'.tmps[1]? = some (.int .i64 (h : Int)) ∧ Hd (MoI wp w0 wr M Pb F1 L1 H O T lo hi n z K h k D st F oa oc)) rfl ?_ ?_
  · rintro k ⟨TT, d⟩ wr ⟨st, oa, oc, hd, hT, h0, h1, hJ⟩
    obtain rfl : d = [] := hd
    obtain ⟨u, rfl⟩ := fr69 TT hT
    have e0 : u 0 = .pointer (some ⟨M, 0, none⟩) := Option.some.inj h0
    have e1 : u 1 = .int .i64 (h : Int) := Option.some.inj h1
    rw [e0, e1]
    clear e0 e1 h0 h1 hT ch c0
    have hE := (unhide hJ).eq
    cases k with
    | zero => rw [gMore] at hE; cases hE
    | succ k =>
    rw [gMore] at hE
    have c6 : wr.cell? ⟨M, 6, none⟩ = some (.slice oa st.opn.length oc) := (unhide hJ).S.rM.cell 6 rfl
    have hkd : (k + 1) * D = k * D + D := Nat.succ_mul k D
    have hln := (unhide hJ).ln
    cases hg : st.opn.getLast? with
    | none =>
      rw [hg] at hE
      simp only at hE
      injection hE with hE
      have h0 : st.opn = [] := by simpa using hg
      rw [h0] at c6
      simp only [List.length_nil] at c6
      clear hg h0
      go_wp2_with fail
      simp only [Exit.jump]
      go_end0
      refine ⟨rfl, oa, oc, ?_⟩
      rw [← hE]
      exact (unhide hJ).S
    | some p =>
      rw [hg] at hE
      simp only at hE
      obtain ⟨m, hm⟩ : ∃ m, st.opn.length = m + 1 := by
        cases hq : st.opn with
        | nil => rw [hq] at hg; simp at hg
        | cons a b => exact ⟨b.length, by simp⟩
      have hga : st.opn[m]? = some p := by
        rw [List.getLast?_eq_getElem?, hm, Nat.add_sub_cancel] at hg
        exact hg
      cases hl2 : z.ps[p]? with
      | none => rw [hl2] at hE; cases hE
      | some l2 =>
      rw [hl2] at hE
      simp only at hE
      cases ht : gTakes K h z l2 ⟨st.heads, st.outer, st.top, st.opn.dropLast⟩ with
      | none => rw [ht] at hE; cases hE
      | some st2 =>
      rw [ht] at hE
      simp only at hE
      obtain ⟨g, rfl, hoc, cg⟩ := own_at (unhide hJ).S.oO hga
      have f6 := k_rowF (unhide hJ).S.rM 6
      have HP := hide ((unhide hJ).S.pop m (by omega))
      have hpn : p < n := by rw [← (unhide hJ).S.len.2.2.1]; exact (List.getElem?_eq_some_iff.1 hl2).1
      have hpn2 : (p : Int) < (n : Int) := by omega
      obtain ⟨ja, jc, cj, rj⟩ := (unhide HP).pred hl2
      have d0 : (wr.setCell ⟨M, 6, none⟩ (.slice (some ⟨g, 0, none⟩) m oc)).cell? ⟨M, 0, none⟩ = some (slV Pb n) := (unhide HP).rM.cell 0 rfl
      have hl2D := unhide HDl l2 (List.mem_of_getElem? hl2)
      have hdl : st.opn.dropLast.length = m := by rw [List.length_dropLast]; omega
      have htl := gTakes_opn K h z l2 _ _ ht
      simp only [hdl] at htl
      have HCall := hide (unhide HA _ _ st2 _ _ l2 ja jc (unhide HP) (by show st.opn.dropLast.length + l2.length ≤ _; omega) rj ht)
      have HE := hide hE
      rw [hm] at c6 hln hoc
      have hmz : ((m + 1 : Nat) : Int) - 1 = (m : Int) := by omega
      have hmb : m ≤ 100000000 := by omega
      clear hE hg hga hl2 ht rj hdl hm
      go_wp2_with (go_at_call 53; refine Calls.mono (unhide HCall) ?_; rintro e w1 ⟨rfl, oa1, oc1, s1⟩; have S1 := hide s1; clear s1)
      go_step3
      exact ⟨rfl, k, by omega, st2, oa1, oc1, rfl, rfl, rfl, rfl, ⟨unhide S1, unhide HE, by omega⟩⟩
  · intro HJ1
    have H1 := hide HJ1
    clear HJ1
    go_wp2_with fail
    go_loopw [16] (fun t wr => ∃ (j : Nat) (st : GN) (oa : Option Addr) (oc : Nat), t = .int .i64 (j : Int) ∧ j ≤ l.length ∧ Hd (BkI wp w0 wr M Pb F1 L1 H O T lo hi n z K h l j st st1 oa oc X)) (fun t _ => l.length - (intOf t).toNat)
    case atStart => exact ⟨0, _, _, _, rfl, by omega, HI0⟩
    case round =>
      clear HI0 ch c0
      obtain ⟨j, st, oa, oc, rfl, hj, hI⟩ := hrel
      by_cases hlt : j < l.length
      · obtain ⟨p, hp⟩ : ∃ p, l[j]? = some p := ⟨_, List.getElem?_eq_getElem hlt⟩
        obtain ⟨lb, lo', rfl, hlb, hcp⟩ := (unhide HR).at (j := j) (x := (p : Int)) (by rw [List.getElem?_map, hp]; rfl)
        rw [← World.cell?_of_block (w := wp) ((unhide hI).S.sm lb hlb)] at hcp
        have heq := (unhide hI).eq
        have hdr : l.drop j = p :: l.drop (j + 1) := by
          rw [List.getElem?_eq_getElem hlt] at hp
          injection hp with hp
          rw [List.drop_eq_getElem_cons hlt, hp]
        rw [hdr, gBack] at heq
        clear hdr hp
        have hln := (unhide hI).ln
        cases hdm : gDm z h p with
        | none => rw [hdm] at heq; cases heq
        | some b =>
        rw [hdm] at heq
        have HDc := hide (unhide HDm wr st oa oc p b (unhide hI).S hdm)
        cases b with
        | false =>
          simp only at heq
          have HSx := hide (fun N => (unhide hI).S.on (ext_drewN wr N))
          have HEq := hide heq
          clear heq hdm
          go_wp2_with (go_at_call 51; refine Calls.mono (unhide HDc) ?_; rintro e w1 ⟨rfl, N, rfl⟩)
          go_roundw
          case rel => exact ⟨j + 1, st, oa, oc, by go_num, by omega, ⟨unhide HSx N, unhide HEq, by omega⟩⟩
          case measure => simp [intOf]; omega
        | true =>
          simp only at heq
          cases ht : gTake K h p ⟨st.heads.set h true, st.outer, st.top, st.opn⟩ with
          | none => rw [ht] at heq; cases heq
          | some st2 =>
          rw [ht] at heq
          simp only at heq
          have hop := gTake_opn ht
          have HS1 := hide (fun N => ((unhide hI).S.on (ext_drewN wr N)).setH h true)
          have HC3 := hide (fun N => (show (wr.drewN N).cell? ⟨M, 3, none⟩ = some (slV H n) from ((unhide hI).S.on (ext_drewN wr N)).rM.cell 3 rfl))
          obtain ⟨y, hy⟩ : ∃ y, st.heads[h]? = some y := ⟨_, List.getElem?_eq_getElem (by rw [(unhide hI).S.len.2.2.2.1]; exact hhn)⟩
          have HCy := hide (fun N => ((unhide hI).S.on (ext_drewN wr N)).rH.cell h (bs_at hy))
          have HFy := hide (fun N => k_rowF ((unhide hI).S.on (ext_drewN wr N)).rH h)
          have HCall := hide (fun N => unhide HT _ _ st2 oa oc p (unhide HS1 N) (by show st.opn.length ≤ _; omega) ht)
          have HEq := hide heq
          clear heq hdm ht hy
          go_wp2_with (first
            | (go_at_call 51; refine Calls.mono (unhide HDc) ?_; rintro e w1 ⟨rfl, N, hw1⟩; rw [hw1]; have c3 := unhide HC3 N; have cy := unhide HCy N; have fy := unhide HFy N; clear hw1 w1; obtain ⟨W1, hW1⟩ : ∃ W1, W1 = wr.drewN N := ⟨_, rfl⟩; have HCl := hide (unhide HCall N); rw [← hW1] at c3 cy fy HCl ⊢; clear hW1)
            | (go_at_call 52; refine Calls.mono (unhide HCl) ?_; rintro e w2 ⟨rfl, oa2, oc2, s2⟩; have S2 := hide s2; clear s2))
          go_roundw
          case rel => exact ⟨j + 1, st2, oa2, oc2, by go_num, by omega, ⟨unhide S2, unhide HEq, by show st2.opn.length ≤ _; have : st2.opn.length ≤ st.opn.length + 1 := hop; omega⟩⟩
          case measure => simp [intOf]; omega
      · obtain rfl : j = l.length := by omega
        have HQ : Hd (st = st1) := by
          have := (unhide hI).eq
          rw [List.drop_length, gBack] at this
          injection this
        have hln := (unhide hI).ln
        go_wp2_with fail
        refine wp_label ?_
        rename_i hKK
        have hS := (unhide hI).S
        rw [unhide HQ] at hS hln
        refine hKK _ _ ?_
        exact (unhide H1 K _ _ ⟨st1, oa, oc, rfl, rfl, rfl, rfl, ⟨hS, unhide HM, by omega⟩⟩)

set_option maxHeartbeats 2000000 in
theorem innermost_w (wp w0 w : World) (M Pb F1 L1 H O T lo hi n : Nat) (z : GZ) (st : GN) (oa : Option Addr) (oc : Nat) (p : Nat) (r : Option Nat) (hS : NsS wp w0 w M Pb F1 L1 H O T lo hi n z st oa oc) (hF : gInm st p = some r) :
    Calls Try.prog 32 #[.pointer (some ⟨M, 0, none⟩), .int .i64 (p : Int)] w fun e w' => e = .returned (.int .i64 (oI r)) ∧ w' = w := by
  unfold gInm at hF
  cases hh : st.heads[p]? with
  | none => rw [hh] at hF; cases hF
  | some b =>
  rw [hh] at hF
  have hpn : (p : Int) < (n : Int) := by have := (List.getElem?_eq_some_iff.1 hh).1; rw [hS.len.2.2.2.1] at this; omega
  have c3 : w.cell? ⟨M, 3, none⟩ = some (slV H n) := hS.rM.cell 3 rfl
  have c4 : w.cell? ⟨M, 4, none⟩ = some (slV O n) := hS.rM.cell 4 rfl
  have cb := hS.rH.cell p (bs_at hh)
  cases b with
  | true =>
    simp only at hF
    injection hF with hF
    subst hF
    rw [show oI (some p) = (p : Int) from rfl]
    clear hS hh
    go_enter Try.func32, Try.ntmps32
    go_wp2_with fail
    go_ret
    exact ⟨rfl, rfl⟩
  | false =>
    simp only at hF
    have co := hS.rO.cell p (os_at hF)
    generalize oI r = y at *
    clear hS hh hF
    go_enter Try.func32, Try.ntmps32
    go_wp2_with fail
    go_ret
    exact ⟨rfl, rfl⟩

end Go.Proofs.Ytpfjafjpijmckaa
