/- Plain: what leads to each point is the document's. -/
import Derived.Test.YtpfjafjpijmckaaGrRm
set_option linter.unusedSimpArgs false
set_option linter.unusedVariables false
namespace Go.Proofs.Ytpfjafjpijmckaa
open Go.RowKit

def rPredL (p : Nat) : List Nat → List (List Nat) → List (List Nat)
  | [], ps => ps
  | q :: r, ps => rPredL p r (ps.set q (ps.getD q [] ++ [p]))
def rPredF : List (List Nat) → Nat → List (List Nat) → List (List Nat)
  | [], _, ps => ps
  | l :: r, p, ps => rPredF r (p + 1) (rPredL p l ps)
/-- The document's Preds of a graph without doubles. -/
def rPreds (ls : List (List Nat)) : List (List Nat) := rPredF ls 0 (List.replicate ls.length [])

theorem getD_set (ps : List (List Nat)) (x q : Nat) (v : List Nat) (hx : x < ps.length) : (ps.set x v).getD q [] = if x = q then v else ps.getD q [] := by
  rw [List.getD_eq_getElem?_getD, List.getElem?_set, List.getD_eq_getElem?_getD]
  split
  · rename_i e; subst e; simp [hx]
  · rfl
theorem gHas_app (x : Int) (y : Nat) : ∀ (o : List Nat), gHas x (o ++ [y]) = (gHas x o || decide ((y : Int) = x))
  | [] => by simp [gHas]
  | z :: r => by
    rw [List.cons_append, gHas, gHas, gHas_app x y r]
    split <;> simp
theorem gPredL_r (n p : Nat) : ∀ (l : List Int) (ps : List (List Nat)) (o : List Nat), ps.length = n → (∀ q : Nat, q < n → gEnds (ps.getD q []) p = gHas (q : Int) o) → gPredL n p l ps = rPredL p (nlR n l o) ps
  | [], ps, o, hl, ho => by rw [gPredL, nlR, rPredL]
  | x :: r, ps, o, hl, ho => by
    rw [gPredL, nlR]
    by_cases hp : gPt n x = true
    · have hx : ((x.toNat : Nat) : Int) = x ∧ x.toNat < n := by unfold gPt at hp; simp at hp; omega
      have hh := ho x.toNat hx.2
      rw [hx.1] at hh
      rw [hh]
      by_cases hc : gHas x o = true
      · rw [if_neg (by simp [hc]), if_neg (by simp [hc])]
        exact gPredL_r n p r ps o hl ho
      · rw [if_pos (by simp [hc, hp]), if_pos (by simp [hc, hp]), rPredL]
        refine gPredL_r n p r _ _ (by simp [hl]) (fun q hq => ?_)
        rw [getD_set _ _ _ _ (by omega), gHas_app]
        by_cases e : x.toNat = q
        · subst e
          simp [gEnds]
        · rw [if_neg e, ho q hq]
          have : ¬ ((x.toNat : Nat) : Int) = (q : Int) := by omega
          rw [decide_eq_false this, Bool.or_false]
    · rw [if_neg (by simp [hp]), if_neg (by simp [hp])]
      exact gPredL_r n p r ps o hl ho
theorem rPredL_inv (p n : Nat) : ∀ (l : List Nat) (ps : List (List Nat)), ps.length = n → (∀ q ∈ l, q < n) → (∀ q, ∀ y ∈ ps.getD q [], y < p + 1) → (rPredL p l ps).length = n ∧ ∀ q, ∀ y ∈ (rPredL p l ps).getD q [], y < p + 1
  | [], ps, hl, hq, hp => ⟨hl, hp⟩
  | x :: r, ps, hl, hq, hp => by
    rw [rPredL]
    refine rPredL_inv p n r _ (by simp [hl]) (fun q h => hq q (List.mem_cons_of_mem _ h)) (fun q y hy => ?_)
    rw [getD_set _ _ _ _ (by rw [hl]; exact hq x (List.mem_cons_self ..))] at hy
    split at hy
    · rcases List.mem_append.1 hy with e | e
      · exact hp _ y e
      · rw [List.mem_singleton.1 e]; omega
    · exact hp q y hy
theorem gPredF_r (n : Nat) : ∀ (g : List (List Int)) (p : Nat) (ps : List (List Nat)), ps.length = n → (∀ q, ∀ y ∈ ps.getD q [], y < p) → gPredF n g p ps = rPredF (g.map (fun l => gNormL n l [])) p ps
  | [], p, ps, hl, hp => by rw [gPredF, List.map_nil, rPredF]
  | l :: r, p, ps, hl, hp => by
    rw [gPredF, List.map_cons, rPredF]
    have e : gPredL n p l ps = rPredL p (gNormL n l []) ps := by
      rw [gNormL_nlR, List.nil_append]
      refine gPredL_r n p l ps [] hl (fun q hq => ?_)
      have : gEnds (ps.getD q []) p = false := by
        unfold gEnds
        cases h : (ps.getD q []).getLast? with
        | none => rfl
        | some y =>
          have := hp q y (List.mem_of_getLast? h)
          simp
          omega
      rw [this]
      rfl
    rw [e]
    obtain ⟨a, b⟩ := rPredL_inv p n (gNormL n l []) ps hl (fun q hq => gNormL_pts n l [] (fun q hq => by cases hq) q hq) (fun q y hy => Nat.lt_succ_of_lt (hp q y hy))
    exact gPredF_r n r (p + 1) _ a b
/-- Preds is the document's. -/
theorem gPreds_r (g : List (List Int)) : gPreds g = rPreds (gNorm g) := by
  unfold gPreds rPreds
  rw [gNorm_len]
  refine gPredF_r g.length g 0 _ (by simp) (fun q y hy => ?_)
  rw [List.getD_eq_getElem?_getD, List.getElem?_replicate] at hy
  split at hy
  · cases hy
  · cases hy
end Go.Proofs.Ytpfjafjpijmckaa
