/- A point is taken into a Loop. -/
import Derived.Test.YtpfjafjpijmckaaGrOu
import Derived.BigRegion
set_option linter.unusedSimpArgs false
set_option linter.unusedVariables false
set_option maxRecDepth 10000
namespace Go.Proofs.Ytpfjafjpijmckaa
open Go.RowKit

theorem gOut_at : ∀ (k : Nat) (top : List Nat) (p q : Nat) (tF : List Nat), gOut k top p = some (q, tF) → tF[q]? = some q ∧ tF.length = top.length
  | 0, top, p, q, tF, h => by rw [gOut] at h; cases h
  | k + 1, top, p, q, tF, h => by
    rw [gOut] at h
    cases ht : top[p]? with
    | none => rw [ht] at h; cases h
    | some t =>
    rw [ht] at h
    simp only at h
    split at h
    · rename_i e
      injection h with h
      injection h with h1 h2
      subst h1 h2 e
      exact ⟨ht, rfl⟩
    · cases hu : top[t]? with
      | none => rw [hu] at h; cases h
      | some u =>
      rw [hu] at h
      have := gOut_at k _ _ _ _ h
      rw [List.length_set] at this
      exact this

/-- What a step of a nest leaves. -/
def NsE (wp w0 : World) (M Pb F1 L1 H O T lo hi n : Nat) (z : GZ) (st : GN) (e : Ending) (w' : World) : Prop := e = .returned (.tuple #[]) ∧ ∃ oa oc, NsS wp w0 w' M Pb F1 L1 H O T lo hi n z st oa oc

set_option maxHeartbeats 8000000 in
theorem take_w (wp w0 w : World) (M Pb F1 L1 H O T lo hi n : Nat) (z : GZ) (st st' : GN) (oa : Option Addr) (oc : Nat) (K h p : Nat) (hS : NsS wp w0 w M Pb F1 L1 H O T lo hi n z st oa oc) (hn : n ≤ 1000000) (hol : st.opn.length ≤ 100000000) (hF : gTake K h p st = some st') :
    Calls Try.prog 52 #[.pointer (some ⟨M, 0, none⟩), .int .i64 (h : Int), .int .i64 (p : Int)] w (NsE wp w0 M Pb F1 L1 H O T lo hi n z st') := by
  unfold gTake at hF
  cases ho : gOut K st.top p with
  | none => rw [ho] at hF; cases hF
  | some r =>
  obtain ⟨q, tF⟩ := r
  rw [ho] at hF
  simp only at hF
  have HO := hide (outermost_w wp w0 w M Pb F1 L1 H O T lo hi n z st oa oc K p q tF hS hn ho)
  have hat := gOut_at K _ _ _ _ ho
  have hqn : q < n := by
    have := (List.getElem?_eq_some_iff.1 hat.1).1
    rw [hat.2, hS.len.2.2.2.2.2] at this
    exact this
  have hqn2 : (q : Int) < (n : Int) := by omega
  have hlo := hide hS.len
  have Hat := hide hat
  clear hS ho hat
  by_cases hqh : q = h
  · rw [if_pos hqh] at hF
    injection hF with hF
    subst hF hqh
    have hb : ((q : Int) == (q : Int)) = true := by simp
    go_enter Try.func52, Try.ntmps52
    go_wp2_with (go_at_call 56; refine Calls.mono (unhide HO) ?_; rintro e w1 ⟨rfl, s1⟩; have S1 := hide s1; clear s1)
    go_end0
    exact ⟨rfl, _, _, unhide S1⟩
  · rw [if_neg hqh] at hF
    injection hF with hF
    subst hF
    have hb : ((q : Int) == (h : Int)) = false := by rw [beq_eq_false_iff_ne]; omega
    obtain ⟨i0, hi', hz0, hz1, hz2⟩ := k_info
    have HI := hide hi'
    have Z0 := hide hz0
    have Z1 := hide hz1
    have Z2 := hide hz2
    clear hi' hz0 hz1 hz2
    go_enter Try.func52, Try.ntmps52
    go_wp2_with (go_at_call 56; refine Calls.mono (unhide HO) ?_; rintro e w1 ⟨rfl, s1⟩; have S1 := hide s1; clear s1)
    obtain ⟨y, hy⟩ : ∃ y, st.outer[q]? = some y := ⟨_, List.getElem?_eq_getElem (by rw [(unhide hlo).2.2.2.2.1]; exact hqn)⟩
    have cy := (unhide S1).rO.cell q (os_at hy)
    have fy := k_rowF (unhide S1).rO q
    have c4 : w1.cell? ⟨M, 4, none⟩ = some (slV O n) := (unhide S1).rM.cell 4 rfl
    have c5 : w1.cell? ⟨M, 5, none⟩ = some (slV T n) := (unhide S1).rM.cell 5 rfl
    have HS2 := hide ((unhide S1).setO q (some h))
    rw [show oI (some h) = (h : Int) from rfl] at HS2
    have ct : (w1.setCell ⟨O, q, none⟩ (.int .i64 (h : Int))).cell? ⟨T, q, none⟩ = some (.int .i64 (q : Int)) := (unhide HS2).rT.cell q (ns_at (unhide Hat).1)
    have ft : (w1.setCell ⟨O, q, none⟩ (.int .i64 (h : Int))).frozen? ⟨T, q, none⟩ = false := k_rowF (unhide HS2).rT q
    have HS3 := hide ((unhide HS2).setT q h)
    have c6 : ((w1.setCell ⟨O, q, none⟩ (.int .i64 (h : Int))).setCell ⟨T, q, none⟩ (.int .i64 (h : Int))).cell? ⟨M, 6, none⟩ = some (.slice oa st.opn.length oc) := (unhide HS3).rM.cell 6 rfl
    clear hy
    have HS4 := hide ((unhide HS3).on (Ext.drew (Ext.refl _)))
    go_region
    obtain ⟨W2, hW2⟩ : ∃ W2, W2 = ((w1.setCell ⟨O, q, none⟩ (.int .i64 (h : Int))).setCell ⟨T, q, none⟩ (.int .i64 (h : Int))).drew := ⟨_, rfl⟩
    rw [← hW2] at HS4 ⊢
    clear hW2 HS3 HS2 c6 ct ft c4 c5 cy fy
    have c6 : W2.cell? ⟨M, 6, none⟩ = some (.slice oa st.opn.length oc) := (unhide HS4).rM.cell 6 rfl
    have HOw : Hd (∀ ob, (W2.alloc ob).ownsRow w0.heap.size 3 1 (.slice oa st.opn.length oc) st.opn.length (ns st.opn)) := fun ob => ((unhide HS4).on (Ext.alloc _ ob)).oO
    have HLe := hide (unhide HS4).ext.size
    have HPush := hide (fun (w3 : World) (ob : Obj) (g' cap' : Nat) => (unhide HS4).push (w3 := w3) (ob := ob) (g' := g') (cap' := cap') q)
    have HrM := hide (fun (w3 : World) (ob : Obj) (h : (W2.alloc ob).grownBy w3 (Value.slice oa st.opn.length oc).ownBlock) => Row.grown ((unhide HS4).on (Ext.alloc _ ob)).rM h (fun e => ((unhide HS4).aO M (by rw [obk_eq] at e; exact e.symm)).1 rfl))
    go_wp2_with (at_builtin; refine kapp_list rfl (.tmp 31) (.tmp 33) 22 rfl w0.heap.size 3 i0 (.int .i64 0) 1 8 Try.underlying22 (unhide HI) (unhide Z0) (unhide Z1) (unhide Z2) rfl (by decide) oa st.opn.length oc _ rfl (unhide HOw _) ⟨W2.heap.size, 0, none⟩ 1 1 [.int .i64 (q : Int)] rfl (by decide) rfl (k_new _ _ rfl _ _) (k_one_int _) ?c1 ?c2 ?c3 ?_)
    case c1 => unfold maxLen; omega
    case c2 => omega
    case c3 => have := unhide HLe; have := (Ext.alloc W2 (.cells #[.int .i64 (q : Int)] 3)).size; omega
    intro g' cap' w3 ho hg hw
    have S5 := hide (unhide HPush w3 _ g' cap' hg ho (hw.imp id (fun e => by have := e; omega)))
    have hrM := unhide HrM w3 _ hg
    have fz := k_rowF hrM 6
    have d6 : w3.cell? ⟨M, 6, none⟩ = some (.slice oa st.opn.length oc) := hrM.cell 6 rfl
    clear ho hg hw hrM
    go_wp2_with fail
    go_end0
    exact ⟨rfl, _, _, unhide S5⟩

theorem gTake_opn {K h p : Nat} {st st' : GN} (hF : gTake K h p st = some st') : st'.opn.length ≤ st.opn.length + 1 := by
  unfold gTake at hF
  split at hF
  · cases hF
  · split at hF
    · injection hF with hF; subst hF; simp
    · injection hF with hF; subst hF; simp
theorem gTakes_opn (K h : Nat) (z : GZ) : ∀ (l : List Nat) (st st' : GN), gTakes K h z l st = some st' → st'.opn.length ≤ st.opn.length + l.length
  | [], st, st', hF => by rw [gTakes] at hF; injection hF with hF; subst hF; simp
  | p :: r, st, st', hF => by
    rw [gTakes] at hF
    split at hF
    · cases hF
    · have := gTakes_opn K h z r _ _ hF
      simp only [List.length_cons]; omega
    · split at hF
      · cases hF
      · rename_i st2 h2
        have h3 := gTake_opn h2
        have := gTakes_opn K h z r _ _ hF
        simp only [List.length_cons]; omega

/-- So far. -/
structure TaI (wp w0 wr : World) (M Pb F1 L1 H O T lo hi n : Nat) (z : GZ) (K h : Nat) (l : List Nat) (j : Nat) (st F : GN) (oa : Option Addr) (oc X : Nat) : Prop where
  S : NsS wp w0 wr M Pb F1 L1 H O T lo hi n z st oa oc
  eq : gTakes K h z (l.drop j) st = some F
  ln : st.opn.length ≤ X + j

set_option maxHeartbeats 8000000 in
theorem takeAll_w (wp w0 w : World) (M Pb F1 L1 H O T lo hi n : Nat) (z : GZ) (st F : GN) (oa : Option Addr) (oc : Nat) (K h : Nat) (l : List Nat) (la : Option Addr) (lc : Nat) (hS : NsS wp w0 w M Pb F1 L1 H O T lo hi n z st oa oc) (hn : n ≤ 1000000) (hll : st.opn.length + l.length ≤ 100000000) (hl : RepI wp (fun q => lo ≤ q ∧ q < hi) la (l.map (fun (x : Nat) => (x : Int)))) (hF : gTakes K h z l st = some F) :
    Calls Try.prog 53 #[.pointer (some ⟨M, 0, none⟩), .int .i64 (h : Int), .slice la l.length lc] w (NsE wp w0 M Pb F1 L1 H O T lo hi n z F) := by
  have HT := hide (fun (W : World) (st st' : GN) (oa : Option Addr) (oc p : Nat) (hS : NsS wp w0 W M Pb F1 L1 H O T lo hi n z st oa oc) (h1 : st.opn.length ≤ 100000000) (hF : gTake K h p st = some st') => take_w wp w0 W M Pb F1 L1 H O T lo hi n z st st' oa oc K h p hS hn h1 hF)
  have HI0 : Hd (TaI wp w0 w M Pb F1 L1 H O T lo hi n z K h l 0 st F oa oc st.opn.length) := ⟨hS, hF, by omega⟩
  have HL := hide hl
  clear hS hF hl
  generalize st.opn.length = X at *
  go_enter Try.func53, Try.ntmps53
  go_wp2_with fail
  go_loopw [10] (fun t wr => ∃ (j : Nat) (st : GN) (oa : Option Addr) (oc : Nat), t = .int .i64 (j : Int) ∧ j ≤ l.length ∧ Hd (TaI wp w0 wr M Pb F1 L1 H O T lo hi n z K h l j st F oa oc X)) (fun t _ => l.length - (intOf t).toNat)
  case atStart => exact ⟨0, _, _, _, rfl, by omega, HI0⟩
  case round =>
    clear HI0
    obtain ⟨j, st, oa, oc, rfl, hj, hI⟩ := hrel
    by_cases hlt : j < l.length
    · obtain ⟨p, hp⟩ : ∃ p, l[j]? = some p := ⟨_, List.getElem?_eq_getElem hlt⟩
      obtain ⟨lb, lo', rfl, hlb, hcp⟩ := (unhide HL).at (j := j) (x := (p : Int)) (by rw [List.getElem?_map, hp]; rfl)
      rw [← World.cell?_of_block (w := wp) ((unhide hI).S.sm lb hlb)] at hcp
      have heq := (unhide hI).eq
      have hdr : l.drop j = p :: l.drop (j + 1) := by
        rw [List.getElem?_eq_getElem hlt] at hp
        injection hp with hp
        rw [List.drop_eq_getElem_cons hlt, hp]
      rw [hdr, gTakes] at heq
      clear hdr hp
      have c1 : wr.cell? ⟨M, 1, none⟩ = some (slV F1 n) := (unhide hI).S.rM.cell 1 rfl
      cases hf : z.first[p]? with
      | none => rw [hf] at heq; cases heq
      | some y =>
      rw [hf] at heq
      have hpn : p < n := by rw [← (unhide hI).S.len.1]; exact (List.getElem?_eq_some_iff.1 hf).1
      have hpn2 : (p : Int) < (n : Int) := by omega
      have cy := (unhide hI).S.rF.cell p (os_at hf)
      have hln := (unhide hI).ln
      clear hf
      cases y with
      | none =>
        simp only at heq
        have HI' : Hd (TaI wp w0 wr M Pb F1 L1 H O T lo hi n z K h l (j + 1) st F oa oc X) := ⟨(unhide hI).S, heq, by omega⟩
        rw [show oI none = -1 from rfl] at cy
        clear heq
        go_wp2_with fail
        go_roundw
        case rel => exact ⟨j + 1, st, oa, oc, by go_num, by omega, HI'⟩
        case measure => simp [intOf]; omega
      | some a =>
        simp only at heq
        rw [show oI (some a) = (a : Int) from rfl] at cy
        have hne : ((a : Int) == -1) = false := by rw [beq_eq_false_iff_ne]; omega
        cases ht : gTake K h p st with
        | none => rw [ht] at heq; cases heq
        | some st2 =>
        rw [ht] at heq
        simp only at heq
        have HCall := hide (unhide HT wr st st2 oa oc p (unhide hI).S (by omega) ht)
        have HEq := hide heq
        have hop := gTake_opn ht
        clear heq ht
        go_wp2_with (go_at_call 52; refine Calls.mono (unhide HCall) ?_; rintro e w1 ⟨rfl, oa1, oc1, s1⟩; have S1 := hide s1; clear s1)
        go_roundw
        case rel => exact ⟨j + 1, st2, oa1, oc1, by go_num, by omega, ⟨unhide S1, unhide HEq, by omega⟩⟩
        case measure => simp [intOf]; omega
    · obtain rfl : j = l.length := by omega
      have HQ : Hd (st = F) := by
        have := (unhide hI).eq
        rw [List.drop_length, gTakes] at this
        injection this
      go_wp2_with fail
      go_end0
      have hS := (unhide hI).S
      rw [unhide HQ] at hS
      exact ⟨rfl, _, _, hS⟩

set_option maxHeartbeats 4000000 in
theorem dominates_w (wp w0 w : World) (M Pb F1 L1 H O T lo hi n : Nat) (z : GZ) (st : GN) (oa : Option Addr) (oc : Nat) (h p : Nat) (b : Bool) (hS : NsS wp w0 w M Pb F1 L1 H O T lo hi n z st oa oc) (hF : gDm z h p = some b) :
    Calls Try.prog 51 #[.pointer (some ⟨M, 0, none⟩), .int .i64 (h : Int), .int .i64 (p : Int)] w fun e w' => e = .returned (.bool b) ∧ ∃ N : Nat, w' = w.drewN N := by
  unfold gDm at hF
  cases h1 : z.first[h]? with
  | none => rw [h1] at hF; cases hF
  | some a1 =>
  cases h2 : z.first[p]? with
  | none => rw [h1, h2] at hF; cases hF
  | some a2 =>
  cases h3 : z.last[p]? with
  | none => rw [h1, h2, h3] at hF; cases hF
  | some a3 =>
  cases h4 : z.last[h]? with
  | none => rw [h1, h2, h3, h4] at hF; cases hF
  | some a4 =>
  rw [h1, h2, h3, h4] at hF
  simp only [Option.some.injEq] at hF
  subst hF
  have c1 : w.cell? ⟨M, 1, none⟩ = some (slV F1 n) := hS.rM.cell 1 rfl
  have c2 : w.cell? ⟨M, 2, none⟩ = some (slV L1 n) := hS.rM.cell 2 rfl
  have x1 := hS.rF.cell h (os_at h1)
  have x2 := hS.rF.cell p (os_at h2)
  have x3 := hS.rL.cell p (os_at h3)
  have x4 := hS.rL.cell h (os_at h4)
  have hh : (h : Int) < (n : Int) := by have := (List.getElem?_eq_some_iff.1 h1).1; rw [hS.len.1] at this; omega
  have hp : (p : Int) < (n : Int) := by have := (List.getElem?_eq_some_iff.1 h2).1; rw [hS.len.1] at this; omega
  clear hS h1 h2 h3 h4
  generalize oI a1 = y1 at *
  generalize oI a2 = y2 at *
  generalize oI a3 = y3 at *
  generalize oI a4 = y4 at *
  by_cases hle : y1 ≤ y2
  · have e0 : decide (y1 ≤ y2) = true := by simpa using hle
    rw [e0, Bool.true_and]
    go_enter Try.func51, Try.ntmps51
    go_wp2_with fail
    go_quiet (fail)
    go_wp2_with fail
    go_ret
    exact ⟨rfl, _, rfl⟩
  · have e0 : decide (y1 ≤ y2) = false := by simpa using hle
    rw [e0, Bool.false_and]
    go_enter Try.func51, Try.ntmps51
    go_wp2_with fail
    go_quiet (fail)
    go_wp2_with fail
    go_ret
    exact ⟨rfl, _, rfl⟩

end Go.Proofs.Ytpfjafjpijmckaa
