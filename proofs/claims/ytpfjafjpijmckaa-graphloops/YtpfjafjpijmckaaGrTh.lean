/- Plain: a walk comes to its end: two steps for each point are enough. -/
import Derived.Test.YtpfjafjpijmckaaGrOr
set_option linter.unusedSimpArgs false
set_option linter.unusedVariables false
set_option maxRecDepth 10000
namespace Go.Proofs.Ytpfjafjpijmckaa
open Go.RowKit

/-- How many are not shut. -/
def unsh : List Bool → Nat
  | [] => 0
  | b :: r => (if b then 0 else 1) + unsh r
theorem unsh_set : ∀ (l : List Bool) (i : Nat), l[i]? = some false → unsh (l.set i true) + 1 = unsh l
  | [], i, h => by simp at h
  | b :: r, 0, h => by
    simp at h
    subst h
    simp [unsh]
    omega
  | b :: r, i + 1, h => by
    have := unsh_set r i (by simpa using h)
    rw [List.set_cons_succ, unsh, unsh]
    omega
theorem unsh_le : ∀ (l : List Bool), unsh l ≤ l.length
  | [] => by simp [unsh]
  | b :: r => by
    have := unsh_le r
    rw [unsh, List.length_cons]
    split <;> omega
theorem gScan_false (n : Nat) (sh : List Bool) : ∀ (l : List Int) (q : Nat), (gScan n sh l).2 = some q → sh[q]? = some false
  | [], q, h => by simp [gScan] at h
  | x :: r, q, h => by
    rw [gScan] at h
    split at h
    · rename_i hc
      simp at hc h
      rw [← h]
      exact hc.2
    · exact gScan_false n sh r q h
/-- The way back from a point. -/
def Chn (wby : List (Option Nat)) : Nat → List Nat → Prop
  | p, [] => wby[p]? = some none
  | p, q :: r => wby[p]? = some (some q) ∧ Chn wby q r
theorem Chn.set {wby : List (Option Nat)} {t : Nat} {v : Option Nat} : ∀ {r : List Nat} {p : Nat}, Chn wby p r → t ∉ p :: r → Chn (wby.set t v) p r
  | [], p, h, ht => by
    show (wby.set t v)[p]? = some none
    rw [List.getElem?_set, if_neg (fun e => ht (by rw [e]; exact List.mem_cons_self ..))]
    exact h
  | q :: r, p, h, ht => by
    refine ⟨?_, Chn.set h.2 (fun hm => ht (List.mem_cons_of_mem _ hm))⟩
    rw [List.getElem?_set, if_neg (fun e => ht (by rw [e]; exact List.mem_cons_self ..))]
    exact h.1
structure WLen (n : Nat) (st : GW) : Prop where
  sh : st.shut.length = n
  nx : st.next.length = n
  wb : st.wby.length = n
theorem gLook_ends (g : List (List Int)) : ∀ (k : Nat) (st : GW) (p : Nat) (r : List Nat), WLen g.length st → p < g.length → (∀ q ∈ p :: r, q < g.length ∧ st.shut[q]? = some true) → Chn st.wby p r → 2 * unsh st.shut + r.length + 1 ≤ k → ∃ F, gLook g k st p = some F ∧ WLen g.length F
  | 0, st, p, r, hL, hp, hs, hc, hk => by omega
  | k + 1, st, p, r, hL, hp, hs, hc, hk => by
    rw [gLook]
    obtain ⟨l, hl⟩ : ∃ l, g[p]? = some l := ⟨_, List.getElem?_eq_getElem hp⟩
    obtain ⟨x, hx⟩ : ∃ x, st.next[p]? = some x := ⟨_, List.getElem?_eq_getElem (by rw [hL.nx]; exact hp)⟩
    rw [hl, hx]
    simp only
    cases hsc : gScan g.length st.shut (l.drop x) with
    | mk c o =>
    cases o with
    | some to =>
      simp only
      have ht := gScan_lt g.length st.shut (l.drop x) to (by rw [hsc])
      have hf := gScan_false g.length st.shut (l.drop x) to (by rw [hsc])
      have hnot : to ∉ p :: r := fun hm => by rw [(hs to hm).2] at hf; cases hf
      have hu := unsh_set st.shut to hf
      refine gLook_ends g k ⟨st.shut.set to true, st.next.set p (x + c), st.wby.set to (some p), st.met ++ [to], st.left⟩ to (p :: r) ⟨by simpa using hL.sh, by simpa using hL.nx, by simpa using hL.wb⟩ ht (fun q hq => ?_) ⟨?_, hc.set hnot⟩ (by simp only [List.length_cons]; omega)
      · rcases List.mem_cons.1 hq with rfl | hq
        · exact ⟨ht, by rw [List.getElem?_set_self (by rw [hL.sh]; exact ht)]⟩
        · refine ⟨(hs q hq).1, ?_⟩
          rw [List.getElem?_set]
          split
          · rw [if_pos (by rw [hL.sh]; exact ht)]
          · exact (hs q hq).2
      · rw [List.getElem?_set_self (by rw [hL.wb]; exact ht)]
    | none =>
      simp only
      cases r with
      | nil =>
        have h0 : st.wby[p]? = some none := hc
        rw [h0]
        exact ⟨_, rfl, ⟨hL.sh, by simpa using hL.nx, hL.wb⟩⟩
      | cons q r =>
        rw [hc.1]
        simp only
        refine gLook_ends g k ⟨st.shut, st.next.set p (x + c), st.wby, st.met, st.left ++ [p]⟩ q r ⟨hL.sh, by simpa using hL.nx, hL.wb⟩ (hs q (List.mem_cons_of_mem _ (List.mem_cons_self ..))).1 (fun t ht => hs t (List.mem_cons_of_mem _ ht)) hc.2 (by simp only [List.length_cons] at hk; show 2 * unsh st.shut + r.length + 1 ≤ k; omega)
/-- The walk through all that is come to answers. -/
theorem gWalk_ends (g : List (List Int)) (K : Nat) (hK : 2 * g.length + 1 ≤ K) : ∃ F, gWalk g K = some F ∧ WLen g.length F := by
  unfold gWalk
  split
  · rename_i h0
    exact ⟨_, rfl, ⟨by simp [gNew, h0], by simp [gNew, h0], by simp [gNew, h0]⟩⟩
  · rename_i h0
    have hu := unsh_le ((gNew g.length).shut.set 0 true)
    have h1 : ((gNew g.length).shut.set 0 true).length = g.length := by simp [gNew]
    refine gLook_ends g K _ 0 [] ⟨by simp [gNew], by simp [gNew], by simp [gNew]⟩ (by omega) (fun q hq => ?_) ?_ (by show 2 * unsh ((gNew g.length).shut.set 0 true) + 0 + 1 ≤ K; omega)
    · rw [List.mem_singleton.1 hq]
      refine ⟨by omega, ?_⟩
      show ((gNew g.length).shut.set 0 true)[0]? = some true
      rw [List.getElem?_set_self (by simp [gNew]; omega)]
    · show (List.replicate g.length none)[0]? = some none
      rw [List.getElem?_replicate, if_pos (by omega)]

end Go.Proofs.Ytpfjafjpijmckaa
