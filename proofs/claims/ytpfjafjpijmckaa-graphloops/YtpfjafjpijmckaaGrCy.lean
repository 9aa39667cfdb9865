/- Which points are come to; whether one can go round. -/
import Derived.Test.YtpfjafjpijmckaaGrNo
set_option linter.unusedSimpArgs false
set_option linter.unusedVariables false
set_option maxRecDepth 10000
namespace Go.Proofs.Ytpfjafjpijmckaa
open Go.RowKit

/-- From the address a on the world holds these truths. -/
def RepB (w : World) (F : Nat → Prop) (a : Option Addr) (l : List Bool) : Prop := l = [] ∨ ∃ b o, a = some ⟨b, o, none⟩ ∧ F b ∧ ∀ (j : Nat) (x : Bool), l[j]? = some x → w.cell? ⟨b, o + j, none⟩ = some (.bool x)

/-- Does one of a list lead to what was not left ahead? -/
def gRoundL (n : Nat) (rk : List (Option Nat)) (ra : Int) : List Int → Bool
  | [] => false
  | x :: r => if gPt n x && decide (ra ≤ oI (rk.getD x.toNat none)) then true else gRoundL n rk ra r
def gRound (g : List (List Int)) (rk : List (Option Nat)) : List Nat → Bool
  | [] => false
  | p :: r => if gRoundL g.length rk (oI (rk.getD p none)) (g.getD p []) then true else gRound g rk r
def gShut (pass : List Bool) (i : Nat) (b : Bool) : Bool := !b || (pass.getD i false)
/-- The walks from all points that are not shut. -/
def gCycF (g : List (List Int)) (K : Nat) : Nat → Nat → GW → Option GW
  | 0, _, st => some st
  | k + 1, p, st => match st.shut[p]? with
    | none => none
    | some true => gCycF g K k (p + 1) st
    | some false => match gFrom g K st p with
      | none => none
      | some st' => gCycF g K k (p + 1) st'
def gCyc (g : List (List Int)) (pass : List Bool) (K : Nat) : Option Bool :=
  match gWalk g K with
  | none => none
  | some r => match gCycF g K g.length 0 ⟨(List.range g.length).map (fun i => gShut pass i (r.shut.getD i false)), List.replicate g.length 0, List.replicate g.length none, [], []⟩ with
    | none => none
    | some st => some (gRound g (gPlaces g.length st.left) st.left)

set_option maxHeartbeats 1000000 in
theorem reach_w (ga : Option Addr) (gc : Nat) (g : List (List Int)) (w : World) (K : Nat) (F : GW) (hg : RepG w (In w) ga g) (hf : Few g) (hK : K ≤ 7000000) (hF : gWalk g K = some F) :
    Calls Try.prog 20 #[.slice ga g.length gc] w fun e w' => ∃ S, e = .returned (slV S g.length) ∧ w.heap.size ≤ S ∧ Row w' S 4 (bsV F.shut) ∧ F.shut.length = g.length ∧ Ext w w' := by
  have H := hide (walkOf_w ga gc g w K F hg hf hK hF)
  clear hg hf hF
  go_enter Try.func20, Try.ntmps20
  go_wp2_with (go_at_call 27; refine Calls.mono (unhide H) ?_; rintro e w1 ⟨B, S, N, Y, ma, mc, la, lc, rfl, s1⟩; have S1 := hide s1; have c1 : w1.cell? ⟨B, 1, none⟩ = some (slV S g.length) := s1.rB.cell 1 rfl; clear s1)
  go_ret
  exact ⟨S, rfl, (unhide S1).bs.2.1, (unhide S1).rS, (unhide S1).len.1, (unhide S1).ext⟩

/-- In a list. -/
structure RoI (g : List (List Int)) (rk : List (Option Nat)) (l : List Int) (ra : Int) (j : Nat) (rest : List Nat) (F : Bool) : Prop where
  eq : (if gRoundL g.length rk ra (l.drop j) then true else gRound g rk rest) = F

set_option maxHeartbeats 4000000 in
theorem wentRound_w (w0 w : World) (B S N Y : Nat) (ga : Option Addr) (gc : Nat) (g : List (List Int)) (st : GW) (ma : Option Addr) (mc : Nat) (la : Option Addr) (lc : Nat) (hg : RepG w0 (In w0) ga g) (hf : Few g) (hS : WlS w0 w B S N Y ga gc g.length st ma mc la lc) (hl : st.left.length ≤ 1000000) (hlp : ∀ p ∈ st.left, p < g.length) :
    Calls Try.prog 35 #[.pointer (some ⟨B, 0, none⟩)] w fun e w' => e = .returned (.bool (gRound g (gPlaces g.length st.left) st.left)) ∧ Ext w w' := by
  have hgn : g.length ≤ 1000000 := hf.1
  have HPl := hide (fun (W : World) (x : Ext w W) => places_w ga g.length gc st.left la lc (fun _ => True) W hgn hl hlp ((own_repI hS.oL).ext x))
  have c0 : w.cell? ⟨B, 0, none⟩ = some (.slice ga g.length gc) := hS.rB.cell 0 rfl
  have c5 : w.cell? ⟨B, 5, none⟩ = some (.slice la st.left.length lc) := hS.rB.cell 5 rfl
  have HIP := hide (fun (W : World) (z : Int) => isPoint_w ga g.length gc z W hgn)
  have HLt := hide (fun (j x : Nat) (h : st.left[j]? = some x) => own_at hS.oL h)
  have HG := hide (hg.ext hS.ext)
  have HLp := hide hlp
  have HF := hide hf
  obtain ⟨rk, hrk⟩ : ∃ rk, rk = gPlaces g.length st.left := ⟨_, rfl⟩
  have hrl : rk.length = g.length := by rw [hrk]; unfold gPlaces; rw [gPlc_len]; simp
  rw [← hrk] at HPl ⊢
  clear hS hg hf hlp hrk
  go_enter Try.func35, Try.ntmps35
  go_wp2_with fail
  go_still_tail 8, (by kernel_rfl)
  change wpList _ _ _ _ _ (World.drew w)
  go_wp2_with (go_at_call 43; refine Calls.mono (unhide HPl _ (Ext.drew (Ext.refl _))) ?_; rintro e w1 ⟨R, rfl, b1, r1, x1⟩; rw [hrl]; have R1 := hide r1; have X1 : Hd (Ext w w1) := (Ext.drew (Ext.refl w)).trans x1; have c5' := (unhide X1).cell c5; clear b1 r1 x1)
  go_loopw [22] (fun t wr => ∃ (i : Nat), t = .int .i64 (i : Int) ∧ i ≤ st.left.length ∧ Hd (Ext w1 wr) ∧ Hd (gRound g rk (st.left.drop i) = gRound g rk st.left)) (fun t _ => st.left.length - (intOf t).toNat)
  case atStart => exact ⟨0, rfl, by omega, Ext.refl _, by simp [Hd]⟩
  case round =>
    clear c5'
    obtain ⟨i, rfl, hi, hX, hq⟩ := hrel
    have hX2 : Ext w wr := (unhide X1).trans (unhide hX)
    by_cases hlt : i < st.left.length
    · obtain ⟨p, hp⟩ : ∃ p, st.left[i]? = some p := ⟨_, List.getElem?_eq_getElem hlt⟩
      have hpn := unhide HLp p (List.mem_of_getElem? hp)
      obtain ⟨lg, rfl, hlc, cp⟩ := unhide HLt i p hp
      have cp := hX2.cell cp
      have c0' := hX2.cell c0
      obtain ⟨l, hgl⟩ : ∃ l, g[p]? = some l := ⟨_, List.getElem?_eq_getElem hpn⟩
      obtain ⟨gb, go, ia, ic, rfl, _, cg, rg⟩ := (unhide HG).at hgl
      have cg := hX2.cell cg
      have hll : l.length ≤ 1000000 := (unhide HF).2 l (List.mem_of_getElem? hgl)
      obtain ⟨ra, hra⟩ : ∃ ra, rk[p]? = some ra := ⟨_, List.getElem?_eq_getElem (by rw [hrl]; exact hpn)⟩
      have HRg := hide rg
      have HRa := hide hra
      have hq2 : Hd ((if gRoundL g.length rk (oI ra) l then true else gRound g rk (st.left.drop (i + 1))) = gRound g rk st.left) := by
        have h0 := unhide hq
        rw [List.getElem?_eq_getElem hlt] at hp
        injection hp with hp
        rw [List.drop_eq_getElem_cons hlt, hp, gRound] at h0
        have e1 : rk.getD p none = ra := by simp [List.getD, hra]
        have e2 : g.getD p [] = l := by simp [List.getD, hgl]
        rw [e1, e2] at h0
        exact h0
      have hpn2 : (p : Int) < (g.length : Int) := by omega
      clear hp hgl rg hra hq
      go_wp2_with fail
      go_loopw [34] (fun t wr => ∃ (j : Nat), t = .int .i64 (j : Int) ∧ j ≤ l.length ∧ Hd (Ext w1 wr) ∧ Hd ((if gRoundL g.length rk (oI ra) (l.drop j) then true else gRound g rk (st.left.drop (i + 1))) = gRound g rk st.left)) (fun t _ => l.length - (intOf t).toNat)
      case atStart => exact ⟨0, rfl, by omega, hX, by rw [List.drop_zero]; exact hq2⟩
      case round =>
        clear cp c0' cg hX2 hX
        obtain ⟨j, rfl, hj, hX, hq⟩ := hrel
        have hX2 : Ext w wr := (unhide X1).trans (unhide hX)
        by_cases hlj : j < l.length
        · obtain ⟨x, hx⟩ : ∃ x, l[j]? = some x := ⟨_, List.getElem?_eq_getElem hlj⟩
          obtain ⟨xb, xo, rfl, _, cx⟩ := (unhide HRg).at hx
          have cx := hX2.cell cx
          have c0' := hX2.cell c0
          have hdr : l.drop j = x :: l.drop (j + 1) := by
            rw [List.getElem?_eq_getElem hlj] at hx
            injection hx with hx
            rw [List.drop_eq_getElem_cons hlj, hx]
          have hqq := unhide hq
          rw [hdr, gRoundL] at hqq
          clear hdr hx hq
          have HIPx := hide (fun W => unhide HIP W x)
          have cra := (unhide hX).cell ((unhide R1).cell p (os_at (unhide HRa)))
          cases hpt : gPt g.length x with
          | false =>
            rw [hpt] at hqq HIPx
            have HQ := hide hqq
            clear hpt hqq
            go_wp2_with fail
            go_quiet ((go_at_call 36; exact Calls.quiet_of_same (unhide HIPx _)))
            go_wp2_with fail
            go_roundw
            case rel => exact ⟨j + 1, by go_num, by omega, (unhide hX).trans (ext_drewN _ _), by simpa [Hd] using unhide HQ⟩
            case measure => simp [intOf]; omega
          | true =>
            obtain ⟨q, rfl⟩ : ∃ q : Nat, x = (q : Int) := by
              unfold gPt at hpt
              simp at hpt
              exact ⟨x.toNat, by omega⟩
            have hqn : q < g.length := by
              unfold gPt at hpt
              simp at hpt
              omega
            have hqn2 : (q : Int) < (g.length : Int) := by omega
            obtain ⟨rq, hrq⟩ : ∃ rq, rk[q]? = some rq := ⟨_, List.getElem?_eq_getElem (by rw [hrl]; exact hqn)⟩
            have crq := (unhide hX).cell ((unhide R1).cell q (os_at hrq))
            have e1 : rk.getD ((q : Int)).toNat none = rq := by simp [List.getD, hrq]
            rw [hpt, e1, Bool.true_and] at hqq
            rw [hpt] at HIPx
            clear hpt hrq e1
            by_cases hle : oI ra ≤ oI rq
            · have e2 : decide (oI ra ≤ oI rq) = true := by simpa using hle
              rw [e2, if_pos rfl, if_pos rfl] at hqq
              have HQ := hide hqq
              clear hqq e2
              generalize oI ra = ya at *
              generalize oI rq = yq at *
              go_wp2_with fail
              go_quiet ((go_at_call 36; exact Calls.quiet_of_same (unhide HIPx _)))
              go_wp2_with fail
              go_ret
              refine ⟨?_, hX2.trans (ext_drewN _ _)⟩
              rw [← unhide HQ]
              rfl
            · have e2 : decide (oI ra ≤ oI rq) = false := by simpa using hle
              rw [e2] at hqq
              have HQ := hide hqq
              clear hqq e2
              go_wp2_with fail
              go_quiet ((go_at_call 36; exact Calls.quiet_of_same (unhide HIPx _)))
              go_wp2_with fail
              go_roundw
              case rel => exact ⟨j + 1, by go_num, by omega, (unhide hX).trans (ext_drewN _ _), by simpa [Hd] using unhide HQ⟩
              case measure => simp [intOf]; omega
        · obtain rfl : j = l.length := by omega
          have HQ : Hd (gRound g rk (st.left.drop (i + 1)) = gRound g rk st.left) := by
            have := unhide hq
            rw [List.drop_length, gRoundL] at this
            exact this
          go_wp2_with fail
          go_roundw
          case rel => exact ⟨i + 1, by go_num, by omega, hX, HQ⟩
          case measure => simp [intOf]; omega
    · obtain rfl : i = st.left.length := by omega
      have HQ : Hd (false = gRound g rk st.left) := by
        have := unhide hq
        rw [List.drop_length, gRound] at this
        exact this
      go_wp2_with fail
      go_ret
      refine ⟨?_, hX2⟩
      rw [← unhide HQ]
      rfl

theorem sh_step (n j : Nat) (f : Nat → Bool) (h : j < n) : ((List.range j).map f ++ List.replicate (n - j) false).set j (f j) = (List.range (j + 1)).map f ++ List.replicate (n - (j + 1)) false := by
  rw [List.set_append_right _ _ (by simp), List.length_map, List.length_range, Nat.sub_self, show n - j = n - (j + 1) + 1 by omega, List.replicate_succ, List.set_cons_zero, List.range_succ]
  simp
theorem gFrom_len {g : List (List Int)} {K : Nat} {st F : GW} {p : Nat} (h : gFrom g K st p = some F) : F.met.length ≤ st.met.length + 1 + K ∧ F.left.length ≤ st.left.length + K := by
  have := gLook_len g K _ p F h
  simp only [List.length_append, List.length_cons, List.length_nil] at this
  omega
theorem gFrom_met {g : List (List Int)} {K : Nat} {st F : GW} {p : Nat} (hp : p < g.length) (h1 : ∀ x ∈ st.met, x < g.length) (h2 : ∀ x ∈ st.left, x < g.length) (h : gFrom g K st p = some F) : (∀ x ∈ F.met, x < g.length) ∧ (∀ x ∈ F.left, x < g.length) := by
  refine gLook_met g K ⟨st.shut.set p true, st.next, st.wby, st.met ++ [p], st.left⟩ p F (fun x hx => ?_) h2 h
  rcases List.mem_append.1 hx with hx | hx
  · exact h1 x hx
  · rw [List.mem_singleton.1 hx]; exact hp
theorem gLook_nx (g : List (List Int)) : ∀ (k : Nat) (st : GW) (p : Nat) (F : GW), (∀ (p x : Nat) (l : List Int), st.next[p]? = some x → g[p]? = some l → x ≤ l.length) → gLook g k st p = some F → (∀ (p x : Nat) (l : List Int), F.next[p]? = some x → g[p]? = some l → x ≤ l.length)
  | 0, st, p, F, hn, h => by rw [gLook] at h; cases h
  | k + 1, st, p, F, hn, h => by
    rw [gLook] at h
    cases hl : g[p]? with
    | none => rw [hl] at h; cases h
    | some l =>
    cases hx : st.next[p]? with
    | none => rw [hl, hx] at h; cases h
    | some x =>
    rw [hl, hx] at h
    simp only at h
    have hs2 := WOk.step (K := st.met.length + st.left.length + k + 2) (k := k) (st := st) ⟨hn, by omega, by omega⟩ hx hl st.shut
    cases hs : gScan g.length st.shut (l.drop x) with
    | mk c o =>
    rw [hs] at h hs2
    cases o with
    | some to => exact gLook_nx g k ⟨st.shut.set to true, st.next.set p (x + c), st.wby.set to (some p), st.met ++ [to], st.left⟩ to F hs2 h
    | none =>
      simp only at h
      cases hb : st.wby[p]? with
      | none => rw [hb] at h; cases h
      | some b =>
      rw [hb] at h
      cases b with
      | none =>
        simp only [Option.some.injEq] at h
        subst h
        exact hs2
      | some b =>
        simp only at h
        exact gLook_nx g k ⟨st.shut, st.next.set p (x + c), st.wby, st.met, st.left ++ [p]⟩ b F hs2 h

end Go.Proofs.Ytpfjafjpijmckaa
