/- Plain: Cyclic tells whether there is a circle. -/
import Derived.Test.YtpfjafjpijmckaaGrCa
set_option linter.unusedSimpArgs false
set_option linter.unusedVariables false
namespace Go.Proofs.Ytpfjafjpijmckaa
open Go.RowKit

theorem gPlc_at : ∀ (l : List Nat) (i : Nat) (d : List (Option Nat)) (q : Nat), l.Nodup → (∀ p ∈ l, p < d.length) →
    (∀ (j : Nat), l[j]? = some q → (gPlc l i d)[q]? = some (some (i + j))) ∧ (q ∉ l → (gPlc l i d)[q]? = d[q]?)
  | [], i, d, q, hn, hl => ⟨fun j h => by simp at h, fun _ => rfl⟩
  | p :: r, i, d, q, hn, hl => by
    rw [gPlc]
    have hn' := List.nodup_cons.1 hn
    obtain ⟨h1, h2⟩ := gPlc_at r (i + 1) (d.set p (some i)) q hn'.2 (fun x hx => by rw [List.length_set]; exact hl x (List.mem_cons_of_mem _ hx))
    refine ⟨fun j hj => ?_, fun hq => ?_⟩
    · cases j with
      | zero =>
        simp at hj
        subst hj
        rw [h2 hn'.1, List.getElem?_set_self (hl p (List.mem_cons_self ..)), Nat.add_zero]
      | succ j =>
        rw [h1 j (by simpa using hj)]
        congr 2
        omega
    · rw [h2 (fun e => hq (List.mem_cons_of_mem _ e)), List.getElem?_set, if_neg]
      rintro rfl
      exact hq (List.mem_cons_self ..)
theorem gPlaces_at {n : Nat} {l : List Nat} (hn : l.Nodup) (hl : ∀ p ∈ l, p < n) {j q : Nat} (h : l[j]? = some q) : (gPlaces n l)[q]? = some (some j) := by
  have := (gPlc_at l 0 (List.replicate n none) q hn (by simpa using hl)).1 j h
  rw [Nat.zero_add] at this
  exact this
theorem gPlaces_not {n : Nat} {l : List Nat} (hn : l.Nodup) (hl : ∀ p ∈ l, p < n) {q : Nat} (h : q ∉ l) (hq : q < n) : (gPlaces n l)[q]? = some none := by
  have := (gPlc_at l 0 (List.replicate n none) q hn (by simpa using hl)).2 h
  unfold gPlaces
  rw [this, List.getElem?_replicate, if_pos hq]

theorem gRoundL_iff (n : Nat) (rk : List (Option Nat)) (ra : Int) : ∀ (l : List Int), gRoundL n rk ra l = true ↔ ∃ x ∈ l, gPt n x = true ∧ ra ≤ oI (rk.getD x.toNat none)
  | [] => by simp [gRoundL]
  | x :: r => by
    rw [gRoundL]
    split
    · rename_i h
      simp only [Bool.and_eq_true, decide_eq_true_eq] at h
      exact ⟨fun _ => ⟨x, List.mem_cons_self .., h⟩, fun _ => rfl⟩
    · rename_i h
      simp only [Bool.and_eq_true, decide_eq_true_eq] at h
      rw [gRoundL_iff n rk ra r]
      constructor
      · rintro ⟨y, hy, e⟩; exact ⟨y, List.mem_cons_of_mem _ hy, e⟩
      · rintro ⟨y, hy, e⟩
        rcases List.mem_cons.1 hy with f | f
        · exact absurd (by rw [← f]; exact e) h
        · exact ⟨y, f, e⟩
theorem gRound_iff (g : List (List Int)) (rk : List (Option Nat)) : ∀ (l : List Nat), gRound g rk l = true ↔ ∃ p ∈ l, ∃ x ∈ g.getD p [], gPt g.length x = true ∧ oI (rk.getD p none) ≤ oI (rk.getD x.toNat none)
  | [] => by simp [gRound]
  | p :: r => by
    rw [gRound]
    split
    · rename_i h
      obtain ⟨x, hx, e⟩ := (gRoundL_iff _ _ _ _).1 h
      exact ⟨fun _ => ⟨p, List.mem_cons_self .., x, hx, e⟩, fun _ => rfl⟩
    · rename_i h
      rw [gRound_iff g rk r]
      constructor
      · rintro ⟨y, hy, e⟩; exact ⟨y, List.mem_cons_of_mem _ hy, e⟩
      · rintro ⟨y, hy, x, hx, e⟩
        rcases List.mem_cons.1 hy with f | f
        · exact absurd ((gRoundL_iff _ _ _ _).2 ⟨x, by rw [← f]; exact hx, by rw [← f]; exact e⟩) h
        · exact ⟨y, f, x, hx, e⟩

/-- A circle of points that were not shut at first. -/
def Circ (R : Nat → Nat → Prop) : Prop := ∃ p q, R p q ∧ Rch R q p
theorem gRound_circ (g : List (List Int)) (sh0 : List Bool) (h0 : sh0.length = g.length) (st : GW) (hS : CbS g sh0 st) (hall : ∀ q : Nat, q < g.length → st.shut[q]? = some true) : gRound g (gPlaces g.length st.left) st.left = true ↔ Circ (Edg g sh0) := by
  have hlt : ∀ p ∈ st.left, p < g.length := fun p hp => by
    have := (List.getElem?_eq_some_iff.1 (hS.S.ls p hp).1).1
    rw [hS.S.len] at this
    exact this
  have hnd : st.left.Nodup := hS.S.nd
  have hmem : ∀ q : Nat, sh0[q]? = some false → q ∈ st.left := fun q hq => hS.A q (hall q (by have := (List.getElem?_eq_some_iff.1 hq).1; omega)) hq
  have rkm : ∀ q ∈ st.left, ∃ j, st.left[j]? = some q ∧ (gPlaces g.length st.left).getD q none = some j := fun q hq => by
    obtain ⟨j, hj⟩ := List.getElem?_of_mem hq
    exact ⟨j, hj, by rw [List.getD_eq_getElem?_getD, gPlaces_at hnd hlt hj]; rfl⟩
  rw [gRound_iff]
  constructor
  · rintro ⟨p, hp, x, hx, hpt, hle⟩
    have hxn : x.toNat < g.length := by unfold gPt at hpt; simp at hpt; omega
    obtain ⟨i, hi, ei⟩ := rkm p hp
    rw [ei] at hle
    have hxm : x.toNat ∈ st.left := by
      by_cases hm : x.toNat ∈ st.left
      · exact hm
      · rw [List.getD_eq_getElem?_getD, gPlaces_not hnd hlt hm hxn] at hle
        simp only [Option.getD_some, oI] at hle
        omega
    obtain ⟨j, hj, ej⟩ := rkm _ hxm
    rw [ej] at hle
    simp only [oI] at hle
    have hpn := hlt p hp
    have hL : g[p]? = some (g.getD p []) := by rw [List.getD_eq_getElem?_getD, List.getElem?_eq_getElem hpn]; rfl
    have hE : Edg g sh0 p x.toNat := ⟨_, x, hL, hx, hpt, rfl, (hS.S.ls p hp).2, (hS.S.ls _ hxm).2⟩
    rcases hS.S.gd i p hi _ hE with ⟨j2, hj2, e2⟩ | e
    · have : j2 = j := by
        have h1 := List.getElem?_eq_some_iff.1 e2
        have h2 := List.getElem?_eq_some_iff.1 hj
        exact (List.getElem_inj hnd).1 (h1.2.trans h2.2.symm)
      omega
    · exact ⟨p, x.toNat, hE, e⟩
  · rintro ⟨p, q, hE, hw⟩
    refine Classical.byContradiction fun hc => ?_
    have dec : ∀ a b, Edg g sh0 a b → ∀ i j : Nat, st.left[i]? = some a → st.left[j]? = some b → j < i := by
      rintro a b ⟨L, x, hL, hx, hpt, rfl, ha, hb⟩ i j hi hj
      refine Classical.byContradiction fun hij => hc ⟨a, List.mem_of_getElem? hi, x, ?_, hpt, ?_⟩
      · rw [List.getD_eq_getElem?_getD, hL]; exact hx
      · rw [List.getD_eq_getElem?_getD, gPlaces_at hnd hlt hi, List.getD_eq_getElem?_getD, gPlaces_at hnd hlt hj]
        simp only [Option.getD_some, oI]
        omega
    have key : ∀ b, Rch (Edg g sh0) q b → (sh0[q]? = some false) → ∀ i j : Nat, st.left[i]? = some q → st.left[j]? = some b → j ≤ i := by
      intro b hb hq0
      induction hb with
      | nil =>
        intro i j hi hj
        have h1 := List.getElem?_eq_some_iff.1 hi
        have h2 := List.getElem?_eq_some_iff.1 hj
        have : i = j := (List.getElem_inj hnd).1 (h1.2.trans h2.2.symm)
        omega
      | @step b c _ hbc ih =>
        intro i j hi hj
        have hbm : sh0[b]? = some false := by obtain ⟨_, _, _, _, _, _, e, _⟩ := hbc; exact e
        obtain ⟨t, ht⟩ := List.getElem?_of_mem (hmem b hbm)
        have h1 := ih i t hi ht
        have h2 := dec b c hbc t j ht hj
        omega
    have hp0 : sh0[p]? = some false := by obtain ⟨_, _, _, _, _, _, e, _⟩ := hE; exact e
    have hq0 : sh0[q]? = some false := by obtain ⟨_, _, _, _, _, _, _, e⟩ := hE; exact e
    obtain ⟨i, hi⟩ := List.getElem?_of_mem (hmem p hp0)
    obtain ⟨j, hj⟩ := List.getElem?_of_mem (hmem q hq0)
    have h1 := dec p q hE i j hi hj
    have h2 := key p hw hq0 j i hj hi
    omega

/-- What is shut at first. -/
def cSh (n : Nat) (pass sh : List Bool) : List Bool := (List.range n).map (fun i => gShut pass i (sh.getD i false))
theorem gCyc_ends (g : List (List Int)) (pass : List Bool) (K : Nat) (F : GW) (hF : gWalk g K = some F) (hK : 2 * g.length + 1 ≤ K) : ∃ b, gCyc g pass K = some b ∧ (b = true ↔ Circ (Edg g (cSh g.length pass F.shut))) := by
  unfold gCyc
  rw [hF]
  simp only
  obtain ⟨sh0, hs0⟩ : ∃ s, s = cSh g.length pass F.shut := ⟨_, rfl⟩
  have e0 : (List.range g.length).map (fun i => gShut pass i (F.shut.getD i false)) = sh0 := hs0.symm
  rw [e0, ← hs0]
  have h0 : sh0.length = g.length := by rw [hs0]; simp [cSh]
  have hst : CbS g sh0 ⟨sh0, List.replicate g.length 0, List.replicate g.length none, [], []⟩ := by
    refine ⟨⟨h0, fun q h => h, fun i a h => by simp [GW.gd] at h, fun q h => by simp [GW.gd] at h, by simp [GW.gd]⟩, fun q h1 h2 => ?_, ⟨h0, by simp, by simp⟩, fun q h => ?_, fun q h => ?_⟩
    · have h1 : sh0[q]? = some true := h1
      rw [h1] at h2; cases h2
    · have := (List.getElem?_eq_some_iff.1 h).1
      show (List.replicate _ _)[q]? = _
      rw [List.getElem?_replicate, if_pos (by simp only at this; omega)]
    · have := (List.getElem?_eq_some_iff.1 h).1
      show (List.replicate _ _)[q]? = _
      rw [List.getElem?_replicate, if_pos (by simp only at this; omega)]
  obtain ⟨st, a1, a2, a3⟩ := gCycF_good g sh0 h0 K hK g.length 0 _ (by omega) hst (fun q h => by omega)
  rw [a1]
  exact ⟨_, rfl, gRound_circ g sh0 h0 st a2 a3⟩

/-- The document's graph without those marked and those not come to. -/
def rBareL (pass : List Bool) (l : List Nat) : List Nat := l.filter (fun q => !pass.getD q false)
def rBare (pass inn : List Bool) : Nat → List (List Nat) → List (List Nat)
  | _, [] => []
  | p, l :: r => (if pass.getD p false || !inn.getD p false then [] else rBareL pass l) :: rBare pass inn (p + 1) r
theorem rBare_len (pass inn : List Bool) : ∀ (ls : List (List Nat)) (p : Nat), (rBare pass inn p ls).length = ls.length
  | [], p => rfl
  | l :: r, p => by rw [rBare, List.length_cons, rBare_len pass inn r]; rfl
theorem rBare_at (pass inn : List Bool) : ∀ (ls : List (List Nat)) (p i : Nat), (rBare pass inn p ls)[i]? = (ls[i]?).map (fun l => if pass.getD (p + i) false || !inn.getD (p + i) false then [] else rBareL pass l)
  | [], p, i => by simp [rBare]
  | l :: r, p, 0 => by simp [rBare]
  | l :: r, p, i + 1 => by
    rw [rBare, List.getElem?_cons_succ, List.getElem?_cons_succ, rBare_at pass inn r (p + 1) i, Nat.add_assoc, Nat.add_comm 1 i]
/-- An edge of that graph is one between points that Cyclic does not shut. -/
theorem bare_edge (g : List (List Int)) (pass inn : List Bool) (hin : inn.length = g.length) (hcl : ∀ (a b : Nat) (l : List Nat), (gNorm g)[a]? = some l → b ∈ l → inn[a]? = some true → inn[b]? = some true) (a b : Nat) :
    (∃ l, (rBare pass inn 0 (gNorm g))[a]? = some l ∧ b ∈ l) ↔ Edg g (cSh g.length pass inn) a b := by
  have hsh : ∀ q : Nat, (cSh g.length pass inn)[q]? = some false ↔ (q < g.length ∧ inn[q]? = some true ∧ pass.getD q false = false) := by
    intro q
    unfold cSh
    rw [List.getElem?_map]
    by_cases hq : q < g.length
    · rw [List.getElem?_range hq]
      have e : inn[q]? = some (inn[q]'(by omega)) := List.getElem?_eq_getElem _
      rw [e]
      simp only [Option.map_some, Option.some.injEq, gShut, List.getD_eq_getElem?_getD, e, Option.getD_some, Bool.or_eq_false_iff, Bool.not_eq_false']
      exact ⟨fun h => ⟨hq, h.1, h.2⟩, fun h => ⟨h.2.1, h.2.2⟩⟩
    · rw [List.getElem?_eq_none (by simpa using hq)]
      exact ⟨fun h => by (cases h), fun h => absurd h.1 hq⟩
  constructor
  · rintro ⟨l, hl, hb⟩
    rw [rBare_at] at hl
    cases hn : (gNorm g)[a]? with
    | none => rw [hn] at hl; cases hl
    | some l0 =>
      rw [hn] at hl
      simp only [Option.map_some, Option.some.injEq, Nat.zero_add] at hl
      subst hl
      split at hb
      · cases hb
      · rename_i hc
        simp only [Bool.or_eq_true, Bool.not_eq_true', not_or] at hc
        have ha1 : pass.getD a false = false := by simpa using hc.1
        have hin1 : inn.getD a false = true := by simpa using hc.2
        obtain ⟨L, hL, rfl⟩ := gNorm_get' g a l0 hn
        have han : a < g.length := (List.getElem?_eq_some_iff.1 hL).1
        unfold rBareL at hb
        obtain ⟨hb1, hb2⟩ := List.mem_filter.1 hb
        rcases (gNormL_mem _ _ _ _).1 hb1 with e | ⟨e1, e2⟩
        · cases e
        · have hina : inn[a]? = some true := by
            have e : inn[a]? = some (inn[a]'(by omega)) := List.getElem?_eq_getElem _
            rw [List.getD_eq_getElem?_getD, e, Option.getD_some] at hin1
            rw [e, hin1]
          have hbn : b < g.length := by unfold gPt at e2; simp at e2; exact e2
          exact ⟨L, (b : Int), hL, e1, e2, by simp, (hsh a).2 ⟨han, hina, ha1⟩, (hsh b).2 ⟨hbn, hcl a b _ hn hb1 hina, by simpa using hb2⟩⟩
  · rintro ⟨L, x, hL, hx, hpt, rfl, ha, hb⟩
    obtain ⟨han, hina, hpa⟩ := (hsh a).1 ha
    obtain ⟨hbn, hinb, hpb⟩ := (hsh _).1 hb
    have hx0 : ((x.toNat : Nat) : Int) = x := by unfold gPt at hpt; simp at hpt; omega
    refine ⟨rBareL pass (gNormL g.length L []), ?_, ?_⟩
    · rw [rBare_at, gNorm_get g a L hL, Option.map_some, Nat.zero_add, hpa, List.getD_eq_getElem?_getD, hina]
      rfl
    · unfold rBareL
      refine List.mem_filter.2 ⟨(gNormL_mem _ _ _ _).2 (Or.inr ⟨by rw [hx0]; exact hx, by rw [hx0]; exact hpt⟩), by rw [hpb]; rfl⟩
theorem way_rch (ls : List (List Nat)) (R : Nat → Nat → Prop) (h : ∀ a b, (∃ l, ls[a]? = some l ∧ b ∈ l) ↔ R a b) (a b : Nat) : Way ls (-1) a b ↔ Rch R a b := by
  constructor
  · intro hw
    induction hw with
    | nil => exact .nil
    | step _ e f _ ih => exact .step ih ((h _ _).1 ⟨_, e, f⟩)
  · intro hw
    induction hw with
    | nil => exact .nil
    | step _ e ih =>
      obtain ⟨l, e1, e2⟩ := (h _ _).2 e
      exact .step ih e1 e2 (by omega)
end Go.Proofs.Ytpfjafjpijmckaa
