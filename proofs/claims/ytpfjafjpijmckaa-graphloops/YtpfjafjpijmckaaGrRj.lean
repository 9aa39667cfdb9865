/- Plain: the walk with a stack of its own goes as one that calls itself. -/
import Derived.Test.YtpfjafjpijmckaaGrRi
set_option linter.unusedSimpArgs false
set_option linter.unusedVariables false
namespace Go.Proofs.Ytpfjafjpijmckaa
open Go.RowKit

/-- A walk without the places where it looks on. -/
structure GD where
  shut : List Bool
  wby : List (Option Nat)
  met : List Nat
  left : List Nat
def GW.gd (st : GW) : GD := ⟨st.shut, st.wby, st.met, st.left⟩
def gOk (n : Nat) (shut : List Bool) (x : Int) : Bool := gPt n x && (shut[x.toNat]? == some false)
/-- The rest of a point's list, and all that is come to from there. -/
def dScan (g : List (List Int)) : Nat → GD → Nat → List Int → Option GD
  | 0, _, _, _ => none
  | k + 1, d, p, [] => some d
  | k + 1, d, p, x :: r => if gOk g.length d.shut x then match g[x.toNat]? with
      | none => none
      | some l => match dScan g k ⟨d.shut.set x.toNat true, d.wby.set x.toNat (some p), d.met ++ [x.toNat], d.left⟩ x.toNat l with
        | none => none
        | some d1 => dScan g k ⟨d1.shut, d1.wby, d1.met, d1.left ++ [x.toNat]⟩ p r
    else dScan g k d p r

theorem gLook_skip (g : List (List Int)) (k : Nat) (st : GW) (p nx : Nat) (L : List Int) (x : Int) (r : List Int) (hL : g[p]? = some L) (hn : st.next[p]? = some nx) (hd : L.drop nx = x :: r) (hx : gOk g.length st.shut x = false) :
    gLook g (k + 1) st p = gLook g (k + 1) ⟨st.shut, st.next.set p (nx + 1), st.wby, st.met, st.left⟩ p := by
  have hp : p < st.next.length := (List.getElem?_eq_some_iff.1 hn).1
  have hd1 : L.drop (nx + 1) = r := by rw [← List.drop_drop, hd]; rfl
  rw [gLook, gLook, hL, hn]
  simp only [List.getElem?_set, if_true, hp]
  rw [hd, hd1, gScan]
  unfold gOk at hx
  rw [if_neg (by rw [hx]; decide)]
  rcases h : gScan g.length st.shut r with ⟨c, _ | to⟩
  · simp only [List.set_set, Nat.add_assoc, Nat.add_comm 1 c]
  · simp only [List.set_set, Nat.add_assoc, Nat.add_comm 1 c]
theorem gLook_go (g : List (List Int)) (k : Nat) (st : GW) (p nx : Nat) (L : List Int) (x : Int) (r : List Int) (hL : g[p]? = some L) (hn : st.next[p]? = some nx) (hd : L.drop nx = x :: r) (hx : gOk g.length st.shut x = true) :
    gLook g (k + 1) st p = gLook g k ⟨st.shut.set x.toNat true, st.next.set p (nx + 1), st.wby.set x.toNat (some p), st.met ++ [x.toNat], st.left⟩ x.toNat := by
  rw [gLook, hL, hn]
  simp only
  rw [hd, gScan]
  unfold gOk at hx
  rw [if_pos hx]
theorem gLook_leave (g : List (List Int)) (k : Nat) (st : GW) (p nx b : Nat) (L : List Int) (hL : g[p]? = some L) (hn : st.next[p]? = some nx) (hd : L.drop nx = []) (hb : st.wby[p]? = some (some b)) :
    gLook g (k + 1) st p = gLook g k ⟨st.shut, st.next.set p nx, st.wby, st.met, st.left ++ [p]⟩ b := by
  rw [gLook, hL, hn]
  simp only
  rw [hd, gScan]
  simp only [hb, Nat.add_zero]

theorem shut_set (l : List Bool) (x q : Nat) (h : l[q]? = some true) : (l.set x true)[q]? = some true := by
  rw [List.getElem?_set]
  have := (List.getElem?_eq_some_iff.1 h).1
  split
  · rename_i e; subst e; simp [this]
  · exact h
theorem gOk_lt {n : Nat} {sh : List Bool} {x : Int} (h : gOk n sh x = true) : sh[x.toNat]? = some false ∧ x.toNat < n ∧ 0 ≤ x := by
  unfold gOk gPt at h
  simp at h
  exact ⟨h.2, by omega, h.1.1⟩

theorem dScan_sim (g : List (List Int)) : ∀ (k : Nat) (d : GD) (p : Nat) (l : List Int) (d2 : GD), dScan g k d p l = some d2 →
    ∀ (st : GW) (nx : Nat) (L : List Int), st.gd = d → g[p]? = some L → st.next[p]? = some nx → L.drop nx = l → st.shut[p]? = some true → WLen g.length st → (∀ q : Nat, st.shut[q]? = some false → st.next[q]? = some 0) →
    ∃ j st', (∀ K, gLook g (K + j + 1) st p = gLook g (K + 1) st' p) ∧ st'.gd = d2 ∧ (∃ nx', st'.next[p]? = some nx' ∧ L.drop nx' = []) ∧ WLen g.length st' ∧ (∀ q : Nat, st'.shut[q]? = some false → st'.next[q]? = some 0) ∧
      (∀ q : Nat, st.shut[q]? = some true → st'.shut[q]? = some true ∧ st'.wby[q]? = st.wby[q]? ∧ (q ≠ p → st'.next[q]? = st.next[q]?))
  | 0, d, p, l, d2, h => by rw [dScan] at h; cases h
  | k + 1, d, p, [], d2, h => by
    intro st nx L e1 hL hn hd hs hW hz
    rw [dScan] at h
    injection h with h
    subst h
    exact ⟨0, st, fun K => rfl, e1, ⟨nx, hn, hd⟩, hW, hz, fun q hq => ⟨hq, rfl, fun _ => rfl⟩⟩
  | k + 1, d, p, x :: r, d2, h => by
    intro st nx L e1 hL hn hd hs hW hz
    subst e1
    rw [dScan] at h
    have hd1 : L.drop (nx + 1) = r := by rw [← List.drop_drop, hd]; rfl
    have hp : p < st.next.length := (List.getElem?_eq_some_iff.1 hn).1
    split at h
    · rename_i hx
      obtain ⟨hxs, hxn, _⟩ := gOk_lt hx
      have hxs' : st.shut[x.toNat]? = some false := hxs
      have hxp : x.toNat ≠ p := fun e => by rw [e, hs] at hxs'; cases hxs'
      split at h
      · cases h
      · rename_i Lx hLx
        split at h
        · cases h
        · rename_i d1 hd1'
          obtain ⟨j1, s1, a1, a2, ⟨nx1, a3, a3'⟩, a4, a5, a6⟩ := dScan_sim g k _ _ _ _ hd1' ⟨st.shut.set x.toNat true, st.next.set p (nx + 1), st.wby.set x.toNat (some p), st.met ++ [x.toNat], st.left⟩ 0 Lx rfl hLx
            (by simp only [List.getElem?_set]; rw [if_neg (Ne.symm hxp)]; exact hz _ hxs') rfl
            (by simp only [List.getElem?_set]; simp [hW.sh, hxn])
            ⟨by simp [hW.sh], by simp [hW.nx], by simp [hW.wb]⟩
            (fun q hq => by
              simp only [List.getElem?_set] at hq ⊢
              split at hq
              · split at hq
                · cases hq
                · cases hq
              · rw [if_neg (fun e => by rw [← e, hs] at hq; cases hq)]
                exact hz q hq)
          have hb : s1.wby[x.toNat]? = some (some p) := by
            rw [(a6 x.toNat (by simp only [List.getElem?_set]; simp [hW.sh, hxn])).2.1]
            simp only [List.getElem?_set]
            simp [hW.wb, hxn]
          have hps := a6 p (shut_set _ _ _ hs)
          obtain ⟨j2, s2, b1, b2, b3, b4, b5, b6⟩ := dScan_sim g k _ _ _ _ h ⟨s1.shut, s1.next.set x.toNat nx1, s1.wby, s1.met, s1.left ++ [x.toNat]⟩ (nx + 1) L
            (by rw [← a2]; rfl) hL
            (by
              simp only [List.getElem?_set]
              rw [if_neg hxp, hps.2.2 (Ne.symm hxp)]
              simp only [List.getElem?_set]
              simp [hp]) hd1 hps.1
            ⟨a4.sh, by simp [a4.nx], a4.wb⟩
            (fun q hq => by
              simp only [List.getElem?_set] at hq ⊢
              rw [if_neg (fun e => ?_)]
              · exact a5 q hq
              · rw [← e, (a6 x.toNat (by simp only [List.getElem?_set]; simp [hW.sh, hxn])).1] at hq
                cases hq)
          refine ⟨j2 + 1 + j1 + 1, s2, fun K => ?_, b2, b3, b4, b5, fun q hq => ?_⟩
          · rw [gLook_go g _ st p nx L x r hL hn hd hx, show K + (j2 + 1 + j1 + 1) = (K + j2 + 1) + j1 + 1 by omega, a1, gLook_leave g _ s1 x.toNat nx1 p Lx hLx a3 a3' hb]
            exact b1 K
          · have h1 := a6 q (shut_set _ _ _ hq)
            have h2 := b6 q h1.1
            have hqx : x.toNat ≠ q := fun e => by rw [← e, hxs'] at hq; cases hq
            refine ⟨h2.1, ?_, fun hqp => ?_⟩
            · rw [h2.2.1]
              show s1.wby[q]? = _
              rw [h1.2.1]
              simp only [List.getElem?_set]
              rw [if_neg hqx]
            · rw [h2.2.2 hqp]
              simp only [List.getElem?_set]
              rw [if_neg hqx, h1.2.2 (Ne.symm hqx)]
              simp only [List.getElem?_set]
              rw [if_neg (Ne.symm hqp)]
    · rename_i hx
      have hx' : gOk g.length st.shut x = false := Bool.eq_false_iff.2 hx
      obtain ⟨j2, s2, b1, b2, b3, b4, b5, b6⟩ := dScan_sim g k _ _ _ _ h ⟨st.shut, st.next.set p (nx + 1), st.wby, st.met, st.left⟩ (nx + 1) L rfl hL
        (by simp only [List.getElem?_set]; simp [hp]) hd1 hs ⟨hW.sh, by simp [hW.nx], hW.wb⟩
        (fun q hq => by
          simp only [List.getElem?_set] at hq ⊢
          rw [if_neg (fun e => by rw [← e, hs] at hq; cases hq)]
          exact hz q hq)
      refine ⟨j2, s2, fun K => ?_, b2, b3, b4, b5, fun q hq => ?_⟩
      · rw [gLook_skip g _ st p nx L x r hL hn hd hx']
        exact b1 K
      · have h2 := b6 q hq
        refine ⟨h2.1, h2.2.1, fun hqp => ?_⟩
        rw [h2.2.2 hqp]
        simp only [List.getElem?_set]
        rw [if_neg (Ne.symm hqp)]
end Go.Proofs.Ytpfjafjpijmckaa
