/- Plain: the order of leaving tells the circles. -/
import Derived.Test.YtpfjafjpijmckaaGrRm
import Derived.Test.YtpfjafjpijmckaaGrCy
set_option linter.unusedSimpArgs false
set_option linter.unusedVariables false
namespace Go.Proofs.Ytpfjafjpijmckaa
open Go.RowKit

inductive Rch (R : Nat → Nat → Prop) (a : Nat) : Nat → Prop
  | nil : Rch R a a
  | step {b c : Nat} : Rch R a b → R b c → Rch R a c
/-- An edge between two points that were not shut at first. -/
def Edg (g : List (List Int)) (sh0 : List Bool) (a b : Nat) : Prop := ∃ L x, g[a]? = some L ∧ x ∈ L ∧ gPt g.length x = true ∧ x.toNat = b ∧ sh0[a]? = some false ∧ sh0[b]? = some false
/-- Each that was left leads to what was left ahead of it, or to what comes to it. -/
def GoodL (g : List (List Int)) (sh0 : List Bool) (l : List Nat) : Prop := ∀ (i a : Nat), l[i]? = some a → ∀ b, Edg g sh0 a b → (∃ j, j < i ∧ l[j]? = some b) ∨ Rch (Edg g sh0) b a

theorem unshut_sh0 {sh0 sh : List Bool} {q n : Nat} (h1 : sh0.length = n) (h2 : ∀ q : Nat, sh0[q]? = some true → sh[q]? = some true) (hq : q < n) (h : sh[q]? = some false) : sh0[q]? = some false := by
  have e : sh0[q]? = some (sh0[q]'(by omega)) := List.getElem?_eq_getElem _
  cases hb : sh0[q]'(by omega) with
  | false => rw [e, hb]
  | true =>
    rw [hb] at e
    rw [h2 q e] at h
    cases h

structure CaS (g : List (List Int)) (sh0 : List Bool) (d : GD) : Prop where
  len : d.shut.length = g.length
  sub : ∀ q : Nat, sh0[q]? = some true → d.shut[q]? = some true
  gd : GoodL g sh0 d.left
  ls : ∀ q ∈ d.left, d.shut[q]? = some true ∧ sh0[q]? = some false
  nd : d.left.Nodup

theorem CaS.shut {g : List (List Int)} {sh0 : List Bool} {d : GD} (h : CaS g sh0 d) (x : Nat) (wb : List (Option Nat)) (mt : List Nat) : CaS g sh0 ⟨d.shut.set x true, wb, mt, d.left⟩ :=
  ⟨by simp [h.len], fun q hq => shut_set _ _ _ (h.sub q hq), h.gd, fun q hq => ⟨shut_set _ _ _ (h.ls q hq).1, (h.ls q hq).2⟩, h.nd⟩

theorem set_true {l : List Bool} {x q : Nat} (h : (l.set x true)[q]? = some true) : l[q]? = some true ∨ q = x := by
  rw [List.getElem?_set] at h
  split at h
  · rename_i e; exact Or.inr e.symm
  · exact Or.inl h
theorem set_false {l : List Bool} {x q : Nat} (h : (l.set x true)[q]? = some false) : l[q]? = some false ∧ q ≠ x := by
  rw [List.getElem?_set] at h
  split at h
  · split at h
    · cases h
    · cases h
  · rename_i e; exact ⟨h, fun e2 => e e2.symm⟩

/-- A point is left: what it leads to. -/
theorem CaS.leave {g : List (List Int)} {sh0 : List Bool} {d1 : GD} {x : Nat} {L : List Int} (h : CaS g sh0 d1) (hL : g[x]? = some L) (hx : d1.shut[x]? = some true) (hx0 : sh0[x]? = some false) (hn : x ∉ d1.left)
    (hall : ∀ y ∈ L, gPt g.length y = true → d1.shut[y.toNat]? = some true) (hop : ∀ q : Nat, d1.shut[q]? = some true → sh0[q]? = some false → q ∉ d1.left → Rch (Edg g sh0) q x) (mt : List Nat) : CaS g sh0 ⟨d1.shut, d1.wby, mt, d1.left ++ [x]⟩ := by
  refine ⟨h.len, h.sub, ?_, ?_, ?_⟩
  · intro i a hi b hb
    have hi : (d1.left ++ [x])[i]? = some a := hi
    by_cases hlt : i < d1.left.length
    · rw [List.getElem?_append_left hlt] at hi
      rcases h.gd i a hi b hb with ⟨j, hj, e⟩ | e
      · exact Or.inl ⟨j, hj, by show (d1.left ++ [x])[j]? = _; rw [List.getElem?_append_left (by omega)]; exact e⟩
      · exact Or.inr e
    · have hle := (List.getElem?_eq_some_iff.1 hi).1
      rw [List.length_append] at hle
      simp only [List.length_cons, List.length_nil] at hle
      obtain rfl : i = d1.left.length := by omega
      rw [List.getElem?_append_right (by omega), Nat.sub_self] at hi
      obtain rfl : x = a := by simpa using hi
      obtain ⟨L2, y, hL2, hy, hp, rfl, _, hb0⟩ := hb
      rw [hL] at hL2
      injection hL2 with hL2
      subst hL2
      have hs := hall y hy hp
      by_cases hm : y.toNat ∈ d1.left
      · obtain ⟨j, hj⟩ := List.getElem?_of_mem hm
        have hj2 := (List.getElem?_eq_some_iff.1 hj).1
        exact Or.inl ⟨j, hj2, by show (d1.left ++ [x])[j]? = _; rw [List.getElem?_append_left hj2]; exact hj⟩
      · exact Or.inr (hop _ hs hb0 hm)
  · intro q hq
    rcases List.mem_append.1 hq with e | e
    · exact h.ls q e
    · rw [List.mem_singleton.1 e]; exact ⟨hx, hx0⟩
  · show (d1.left ++ [x]).Nodup
    rw [List.nodup_append]
    refine ⟨h.nd, by simp, fun a ha b hb e => ?_⟩
    rw [List.mem_singleton.1 hb] at e
    exact hn (by rw [← e]; exact ha)

theorem dScan_good (g : List (List Int)) (sh0 : List Bool) (h0 : sh0.length = g.length) : ∀ (k : Nat) (d : GD) (p : Nat) (l : List Int) (d2 : GD), dScan g k d p l = some d2 → CaS g sh0 d → sh0[p]? = some false → (∃ L, g[p]? = some L ∧ ∀ x ∈ l, x ∈ L) →
    (∀ q : Nat, d.shut[q]? = some true → sh0[q]? = some false → q ∉ d.left → Rch (Edg g sh0) q p) →
    CaS g sh0 d2 ∧ (∀ q ∈ d2.left, q ∈ d.left ∨ d.shut[q]? = some false) ∧ (∀ q ∈ d.left, q ∈ d2.left) ∧ (∀ q : Nat, d2.shut[q]? = some true → sh0[q]? = some false → q ∉ d2.left → d.shut[q]? = some true ∧ q ∉ d.left)
  | 0, d, p, l, d2, h, _, _, _, _ => by rw [dScan] at h; cases h
  | k + 1, d, p, [], d2, h, hS, _, _, _ => by
    rw [dScan] at h
    injection h with h
    subst h
    exact ⟨hS, fun q hq => Or.inl hq, fun q hq => hq, fun q h1 _ h3 => ⟨h1, h3⟩⟩
  | k + 1, d, p, x :: r, d2, h, hS, hp0, ⟨L, hL, hlL⟩, hop => by
    rw [dScan] at h
    have hrL : ∃ L, g[p]? = some L ∧ ∀ x ∈ r, x ∈ L := ⟨L, hL, fun y hy => hlL y (List.mem_cons_of_mem _ hy)⟩
    split at h
    · rename_i hx
      obtain ⟨hxs, hxn, hx00⟩ := gOk_lt hx
      have hpt : gPt g.length x = true := by unfold gOk at hx; simp only [Bool.and_eq_true] at hx; exact hx.1
      split at h
      · cases h
      · rename_i Lx hLx
        split at h
        · cases h
        · rename_i d1 h1
          have hx0 : sh0[x.toNat]? = some false := unshut_sh0 h0 hS.sub hxn hxs
          have hE : Edg g sh0 p x.toNat := ⟨L, x, hL, hlL x (List.mem_cons_self ..), hpt, rfl, hp0, hx0⟩
          have hxl : x.toNat ∉ d.left := fun hm => by rw [(hS.ls _ hm).1] at hxs; cases hxs
          have hop1 : ∀ q : Nat, (d.shut.set x.toNat true)[q]? = some true → sh0[q]? = some false → q ∉ d.left → Rch (Edg g sh0) q x.toNat := fun q q1 q2 q3 => by
            rcases set_true q1 with e | e
            · exact .step (hop q e q2 q3) hE
            · rw [e]; exact .nil
          obtain ⟨a1, a2, a3, a4⟩ := dScan_good g sh0 h0 k _ _ _ _ h1 (hS.shut x.toNat _ _) hx0 ⟨Lx, hLx, fun y hy => hy⟩ hop1
          simp only at a2 a3 a4
          have hon := dScan_on g k _ _ _ _ h1 (by simp [hS.len])
          have hx1 : d1.shut[x.toNat]? = some true := hon.2.1 _ (by simp only [List.getElem?_set]; simp [hS.len, hxn])
          have hxn1 : x.toNat ∉ d1.left := fun hm => by
            rcases a2 _ hm with e | e
            · exact hxl e
            · exact (set_false e).2 rfl
          have b0 := a1.leave hLx hx1 hx0 hxn1 hon.2.2.1 (fun q q1 q2 q3 => by
            obtain ⟨c1, c2⟩ := a4 q q1 q2 q3
            exact hop1 q c1 q2 c2) d1.met
          have hop2 : ∀ q : Nat, d1.shut[q]? = some true → sh0[q]? = some false → q ∉ d1.left ++ [x.toNat] → d.shut[q]? = some true ∧ q ∉ d.left := fun q q1 q2 q3 => by
            obtain ⟨c1, c2⟩ := a4 q q1 q2 (fun e => q3 (List.mem_append_left _ e))
            refine ⟨(set_true c1).resolve_right (fun e => q3 (by rw [e]; exact List.mem_append_right _ (List.mem_singleton.2 rfl))), c2⟩
          obtain ⟨e1, e2, e3, e4⟩ := dScan_good g sh0 h0 k _ _ _ _ h b0 hp0 hrL (fun q q1 q2 q3 => by
            obtain ⟨c1, c2⟩ := hop2 q q1 q2 q3
            exact hop q c1 q2 c2)
          simp only at e2 e3 e4
          refine ⟨e1, fun q hq => ?_, fun q hq => e3 q (List.mem_append_left _ (a3 q hq)), fun q q1 q2 q3 => ?_⟩
          · rcases e2 q hq with e | e
            · rcases List.mem_append.1 e with e | e
              · rcases a2 q e with e | e
                · exact Or.inl e
                · exact Or.inr (set_false e).1
              · rw [List.mem_singleton.1 e]; exact Or.inr hxs
            · refine Or.inr ?_
              have hqn : q < g.length := by have := (List.getElem?_eq_some_iff.1 e).1; rw [hon.1] at this; exact this
              have ed : d.shut[q]? = some (d.shut[q]'(by rw [hS.len]; exact hqn)) := List.getElem?_eq_getElem _
              cases hb : d.shut[q]'(by rw [hS.len]; exact hqn) with
              | false => rw [ed, hb]
              | true =>
                rw [hb] at ed
                rw [hon.2.1 q (shut_set _ _ _ ed)] at e
                cases e
          · obtain ⟨c1, c2⟩ := e4 q q1 q2 q3
            exact hop2 q c1 q2 c2
    · exact dScan_good g sh0 h0 k _ _ _ _ h hS hp0 hrL hop

/-- All that were come to were left. -/
def AllL (sh0 : List Bool) (d : GD) : Prop := ∀ q : Nat, d.shut[q]? = some true → sh0[q]? = some false → q ∈ d.left
theorem dFrom_good (g : List (List Int)) (sh0 : List Bool) (h0 : sh0.length = g.length) (k : Nat) (d d2 : GD) (p : Nat) (h : dFrom g k d p = some d2) (hS : CaS g sh0 d) (hA : AllL sh0 d) (hp : d.shut[p]? = some false) : CaS g sh0 d2 ∧ AllL sh0 d2 ∧ d2.shut[p]? = some true ∧ ∀ q : Nat, d.shut[q]? = some true → d2.shut[q]? = some true := by
  unfold dFrom at h
  split at h
  · cases h
  · rename_i L hL
    have hpn : p < g.length := (List.getElem?_eq_some_iff.1 hL).1
    split at h
    · cases h
    · rename_i d1 h1
      injection h with h
      subst h
      have hp0 := unshut_sh0 h0 hS.sub hpn hp
      have hpl : p ∉ d.left := fun hm => by rw [(hS.ls _ hm).1] at hp; cases hp
      have hop1 : ∀ q : Nat, (d.shut.set p true)[q]? = some true → sh0[q]? = some false → q ∉ d.left → Rch (Edg g sh0) q p := fun q q1 q2 q3 => by
        rcases set_true q1 with e | e
        · exact absurd (hA q e q2) q3
        · rw [e]; exact .nil
      obtain ⟨a1, a2, a3, a4⟩ := dScan_good g sh0 h0 k _ _ _ _ h1 (hS.shut p _ _) hp0 ⟨L, hL, fun y hy => hy⟩ hop1
      simp only at a2 a3 a4
      have hon := dScan_on g k _ _ _ _ h1 (by simp [hS.len])
      have hx1 : d1.shut[p]? = some true := hon.2.1 _ (by simp only [List.getElem?_set]; simp [hS.len, hpn])
      have hxn1 : p ∉ d1.left := fun hm => by
        rcases a2 _ hm with e | e
        · exact hpl e
        · exact (set_false e).2 rfl
      refine ⟨a1.leave hL hx1 hp0 hxn1 hon.2.2.1 (fun q q1 q2 q3 => by
        obtain ⟨c1, c2⟩ := a4 q q1 q2 q3
        exact hop1 q c1 q2 c2) d1.met, fun q q1 q2 => ?_, hx1, fun q hq => hon.2.1 q (shut_set _ _ _ hq)⟩
      by_cases hm : q ∈ d1.left
      · exact List.mem_append_left _ hm
      · obtain ⟨c1, c2⟩ := a4 q q1 q2 hm
        rcases set_true c1 with e | e
        · exact absurd (hA q e q2) c2
        · rw [e]; exact List.mem_append_right _ (List.mem_singleton.2 rfl)
theorem dScan_wby (g : List (List Int)) : ∀ (k : Nat) (d : GD) (p : Nat) (l : List Int) (d2 : GD), dScan g k d p l = some d2 → d.shut.length = g.length → ∀ q : Nat, d2.shut[q]? = some false → d2.wby[q]? = d.wby[q]?
  | 0, d, p, l, d2, h, hl => by rw [dScan] at h; cases h
  | k + 1, d, p, [], d2, h, hl => by
    rw [dScan] at h
    injection h with h
    subst h
    exact fun q _ => rfl
  | k + 1, d, p, x :: r, d2, h, hl => by
    rw [dScan] at h
    split at h
    · rename_i hx
      obtain ⟨hxs, hxn, hx00⟩ := gOk_lt hx
      split at h
      · cases h
      · split at h
        · cases h
        · rename_i d1 h1
          have hon := dScan_on g k _ _ _ _ h1 (by simp [hl])
          have hon2 := dScan_on g k _ _ _ _ h hon.1
          intro q hq
          have hq1 : d1.shut[q]? = some false := by
            have hqn : q < g.length := by have := (List.getElem?_eq_some_iff.1 hq).1; rw [hon2.1] at this; exact this
            have ed : d1.shut[q]? = some (d1.shut[q]'(by rw [hon.1]; exact hqn)) := List.getElem?_eq_getElem _
            cases hb : d1.shut[q]'(by rw [hon.1]; exact hqn) with
            | false => rw [ed, hb]
            | true => rw [hb] at ed; rw [hon2.2.1 q ed] at hq; cases hq
          have e2 := dScan_wby g k _ _ _ _ h hon.1 q hq
          have e1 := dScan_wby g k _ _ _ _ h1 (by simp [hl]) q hq1
          simp only at e1 e2
          rw [e2, e1, List.getElem?_set, if_neg]
          rintro rfl
          rw [hon.2.1 _ (by simp only [List.getElem?_set]; simp [hl, hxn])] at hq1
          cases hq1
    · exact dScan_wby g k _ _ _ _ h hl

/-- Between two walks of Cyclic. -/
structure CbS (g : List (List Int)) (sh0 : List Bool) (st : GW) : Prop where
  S : CaS g sh0 st.gd
  A : AllL sh0 st.gd
  W : WLen g.length st
  nx : ∀ q : Nat, st.shut[q]? = some false → st.next[q]? = some 0
  wb : ∀ q : Nat, st.shut[q]? = some false → st.wby[q]? = some none
theorem CbS.from {g : List (List Int)} {sh0 : List Bool} {st : GW} (h0 : sh0.length = g.length) (h : CbS g sh0 st) (p K : Nat) (hp : st.shut[p]? = some false) (hK : 2 * g.length + 1 ≤ K) : ∃ st', gFrom g K st p = some st' ∧ CbS g sh0 st' ∧ st'.shut[p]? = some true ∧ ∀ q : Nat, st.shut[q]? = some true → st'.shut[q]? = some true := by
  have hpn : p < g.length := by have := (List.getElem?_eq_some_iff.1 hp).1; rw [h.W.sh] at this; exact this
  have hu := unsh_set st.shut p hp
  have hul := unsh_le st.shut
  rw [h.W.sh] at hul
  obtain ⟨F, hF, hFW⟩ := gLook_ends g K ⟨st.shut.set p true, st.next, st.wby, st.met ++ [p], st.left⟩ p [] ⟨by simp [h.W.sh], h.W.nx, h.W.wb⟩ hpn (fun q hq => by
    rw [List.mem_singleton.1 hq]
    exact ⟨hpn, by show (st.shut.set p true)[p]? = _; rw [List.getElem?_set]; simp [h.W.sh, hpn]⟩) (h.wb p hp) (by show 2 * unsh (st.shut.set p true) + 0 + 1 ≤ K; omega)
  have hF' : gFrom g K st p = some F := hF
  obtain ⟨D, hD⟩ := lens_bd g
  obtain ⟨d2, hd2⟩ := dFrom_ends g D _ hD st.gd p hpn h.W.sh (Nat.le_refl _)
  obtain ⟨e1, e2, e3, e4⟩ := gFrom_d g _ K st F d2 p hd2 hF' h.W hpn hp (h.wb p hp) h.nx
  obtain ⟨f1, f2, f3, f4⟩ := dFrom_good g sh0 h0 _ _ _ p hd2 h.S h.A hp
  rw [← e1] at f1 f2 f3 f4 hd2
  refine ⟨F, hF', ⟨f1, f2, hFW, e3, fun q hq => ?_⟩, f3, f4⟩
  have hwq : F.gd.wby[q]? = st.gd.wby[q]? := by
    unfold dFrom at hd2
    split at hd2
    · cases hd2
    · split at hd2
      · cases hd2
      · rename_i d1 h1
        injection hd2 with hd2
        have hq1 : d1.shut[q]? = some false := by
          have : F.gd.shut = d1.shut := by rw [← hd2]
          rw [← this]; exact hq
        have := dScan_wby g _ _ _ _ _ h1 (by simp [GW.gd, h.W.sh]) q hq1
        rw [← hd2]
        exact this
  have hsq : st.shut[q]? = some false := by
    have hqn : q < g.length := by have := (List.getElem?_eq_some_iff.1 hq).1; rw [hFW.sh] at this; exact this
    have ed : st.shut[q]? = some (st.shut[q]'(by rw [h.W.sh]; exact hqn)) := List.getElem?_eq_getElem _
    cases hb : st.shut[q]'(by rw [h.W.sh]; exact hqn) with
    | false => rw [ed, hb]
    | true =>
      rw [hb] at ed
      have := f4 q ed
      have hq' : F.gd.shut[q]? = some false := hq
      rw [hq'] at this
      cases this
  exact Eq.trans hwq (h.wb q hsq)
theorem gCycF_good (g : List (List Int)) (sh0 : List Bool) (h0 : sh0.length = g.length) (K : Nat) (hK : 2 * g.length + 1 ≤ K) : ∀ (k p : Nat) (st : GW), p + k = g.length → CbS g sh0 st → (∀ q : Nat, q < p → st.shut[q]? = some true) → ∃ st', gCycF g K k p st = some st' ∧ CbS g sh0 st' ∧ ∀ q : Nat, q < g.length → st'.shut[q]? = some true
  | 0, p, st, hp, hS, hq => ⟨st, rfl, hS, fun q hq' => hq q (by omega)⟩
  | k + 1, p, st, hp, hS, hq => by
    rw [gCycF]
    have hpn : p < g.length := by omega
    have e : st.shut[p]? = some (st.shut[p]'(by rw [hS.W.sh]; exact hpn)) := List.getElem?_eq_getElem _
    cases hb : st.shut[p]'(by rw [hS.W.sh]; exact hpn) with
    | true =>
      rw [hb] at e
      rw [e]
      exact gCycF_good g sh0 h0 K hK k (p + 1) st (by omega) hS (fun q h => by
        rcases Nat.lt_or_eq_of_le (Nat.le_of_lt_succ h) with h | h
        · exact hq q h
        · rw [h]; exact e)
    | false =>
      rw [hb] at e
      rw [e]
      obtain ⟨st', a1, a2, a3, a4⟩ := hS.from h0 p K e hK
      simp only [a1]
      exact gCycF_good g sh0 h0 K hK k (p + 1) st' (by omega) a2 (fun q h => by
        rcases Nat.lt_or_eq_of_le (Nat.le_of_lt_succ h) with h | h
        · exact a4 q (hq q h)
        · rw [h]; exact a3)
end Go.Proofs.Ytpfjafjpijmckaa
