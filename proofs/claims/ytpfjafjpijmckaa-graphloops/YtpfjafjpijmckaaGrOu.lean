/- The Head of the outermost Loop found that has a point; the way is halved. -/
import Derived.Test.YtpfjafjpijmckaaGrNe
set_option linter.unusedSimpArgs false
set_option linter.unusedVariables false
set_option maxRecDepth 10000
namespace Go.Proofs.Ytpfjafjpijmckaa
open Go.RowKit

theorem fr41 (T : Array Value) (h : T.size = 41) : ∃ u : Nat → Value, T = #[u 0, u 1, u 2, u 3, u 4, u 5, u 6, u 7, u 8, u 9, u 10, u 11, u 12, u 13, u 14, u 15, u 16, u 17, u 18, u 19, u 20, u 21, u 22, u 23, u 24, u 25, u 26, u 27, u 28, u 29, u 30, u 31, u 32, u 33, u 34, u 35, u 36, u 37, u 38, u 39, u 40] := by
  refine ⟨fun i => T.getD i undef, ?_⟩
  have e : T = ((List.range T.size).map (fun i => T.getD i undef)).toArray := by
    apply Array.ext
    · simp
    · intro i h1 h2
      simp [h1]
  rw [h] at e
  exact e

/-- On the way. -/
structure OuI (wp w0 wr : World) (M Pb F1 L1 H O T lo hi n : Nat) (z : GZ) (st : GN) (oa : Option Addr) (oc : Nat) (k p : Nat) (top : List Nat) (q : Nat) (tF : List Nat) : Prop where
  S : NsS wp w0 wr M Pb F1 L1 H O T lo hi n z ⟨st.heads, st.outer, top, st.opn⟩ oa oc
  eq : gOut k top p = some (q, tF)

set_option maxHeartbeats 8000000 in
theorem outermost_w (wp w0 w : World) (M Pb F1 L1 H O T lo hi n : Nat) (z : GZ) (st : GN) (oa : Option Addr) (oc : Nat) (K p q : Nat) (tF : List Nat) (hS : NsS wp w0 w M Pb F1 L1 H O T lo hi n z st oa oc) (hn : n ≤ 1000000) (hF : gOut K st.top p = some (q, tF)) :
    Calls Try.prog 56 #[.pointer (some ⟨M, 0, none⟩), .int .i64 (p : Int)] w fun e w' => e = .returned (.int .i64 (q : Int)) ∧ NsS wp w0 w' M Pb F1 L1 H O T lo hi n z ⟨st.heads, st.outer, tF, st.opn⟩ oa oc := by
  have HI0 : Hd (OuI wp w0 w M Pb F1 L1 H O T lo hi n z st oa oc K p st.top q tF) := ⟨hS, hF⟩
  clear hS hF
  go_enter Try.func56, Try.ntmps56
  go_wp2_with fail
  refine k_scope_loop 0 (fun k a' wr => ∃ (p : Nat) (top : List Nat), a'.defers = [] ∧ a'.tmps.size = 41 ∧ a'.tmps[0]? = some (.pointer (some ⟨M, 0, none⟩)) ∧ a'.tmps[1]? = some (.int .i64 (p : Int)) ∧ Hd (OuI wp w0 wr M Pb F1 L1 H O T lo hi n z st oa oc k p top q tF)) rfl ?_ ?_
  · rintro k ⟨TT, d⟩ wr ⟨p, top, hd, hT, h0, h1, hJ⟩
    obtain rfl : d = [] := hd
    obtain ⟨u, rfl⟩ := fr41 TT hT
    have e0 : u 0 = .pointer (some ⟨M, 0, none⟩) := Option.some.inj h0
    have e1 : u 1 = .int .i64 (p : Int) := Option.some.inj h1
    rw [e0, e1]
    clear e0 e1 h0 h1 hT
    have hE := (unhide hJ).eq
    cases k with
    | zero => rw [gOut] at hE; cases hE
    | succ k =>
    rw [gOut] at hE
    cases ht : top[p]? with
    | none => rw [ht] at hE; cases hE
    | some t =>
    rw [ht] at hE
    simp only at hE
    have hpn : p < n := by rw [← (unhide hJ).S.len.2.2.2.2.2]; exact (List.getElem?_eq_some_iff.1 ht).1
    have hpn2 : (p : Int) < (n : Int) := by omega
    have c5 : wr.cell? ⟨M, 5, none⟩ = some (slV T n) := (unhide hJ).S.rM.cell 5 rfl
    have cp := (unhide hJ).S.rT.cell p (ns_at ht)
    by_cases htp : t = p
    · rw [if_pos htp] at hE
      subst htp
      injection hE with hE
      injection hE with hE1 hE2
      subst hE1 hE2
      have hbq : ((t : Int) == (t : Int)) = true := by simp
      clear ht
      go_wp2_with fail
      simp only [Exit.jump]
      go_ret
      exact ⟨rfl, (unhide hJ).S⟩
    · rw [if_neg htp] at hE
      cases hu : top[t]? with
      | none => rw [hu] at hE; cases hE
      | some v =>
      rw [hu] at hE
      simp only at hE
      have htn : t < n := by rw [← (unhide hJ).S.len.2.2.2.2.2]; exact (List.getElem?_eq_some_iff.1 hu).1
      have htn2 : (t : Int) < (n : Int) := by omega
      have ct := (unhide hJ).S.rT.cell t (ns_at hu)
      have hbq : ((t : Int) == (p : Int)) = false := by rw [beq_eq_false_iff_ne]; omega
      have fz := k_rowF (unhide hJ).S.rT p
      have HS1 := hide (((unhide hJ).S.setT p v).on (Ext.drew (Ext.refl _)))
      have HE := hide hE
      have hpl : p < top.length := (List.getElem?_eq_some_iff.1 ht).1
      have d5 : (wr.setCell ⟨T, p, none⟩ (.int .i64 (v : Int))).cell? ⟨M, 5, none⟩ = some (slV T n) := ((unhide hJ).S.setT p v).rM.cell 5 rfl
      have dp : (wr.setCell ⟨T, p, none⟩ (.int .i64 (v : Int))).cell? ⟨T, p, none⟩ = some (.int .i64 (v : Int)) := ((unhide hJ).S.setT p v).rT.cell p (ns_at (by rw [List.getElem?_set_self hpl]))
      clear hpl
      clear hE ht hu
      go_wp2_with fail
      go_still_tail 18, (by kernel_rfl)
      change wpList _ _ _ _ _ (World.drew wr)
      go_wp2_with fail
      go_step3
      exact ⟨rfl, k, by omega, v, _, rfl, rfl, rfl, rfl, ⟨unhide HS1, unhide HE⟩⟩
  · intro HJ1
    have H1 := hide HJ1
    clear HJ1
    go_wp2_with fail
    refine wp_label ?_
    rename_i hKK
    exact hKK _ _ (unhide H1 K _ _ ⟨p, _, rfl, rfl, rfl, rfl, HI0⟩)

end Go.Proofs.Ytpfjafjpijmckaa
