/- Plain: the order of leaving is the document's. -/
import Derived.Test.YtpfjafjpijmckaaGrRl
set_option linter.unusedSimpArgs false
set_option linter.unusedVariables false
namespace Go.Proofs.Ytpfjafjpijmckaa
open Go.RowKit

/-- What a list without doubles adds. -/
def nlR (n : Nat) : List Int → List Nat → List Nat
  | [], _ => []
  | x :: r, o => if gPt n x && !gHas x o then x.toNat :: nlR n r (o ++ [x.toNat]) else nlR n r o
theorem gNormL_nlR (n : Nat) : ∀ (l : List Int) (o : List Nat), gNormL n l o = o ++ nlR n l o
  | [], o => by simp [gNormL, nlR]
  | x :: r, o => by
    rw [gNormL, nlR]
    split
    · rw [gNormL_nlR n r]; simp
    · exact gNormL_nlR n r o

/-- The document's way of leaving: the rest of a point's list; what is left is put ahead. -/
def eScan (ls : List (List Nat)) : Nat → List Bool → List Nat → List Nat → Option (List Bool × List Nat)
  | 0, _, _, _ => none
  | k + 1, on', out, [] => some (on', out)
  | k + 1, on', out, q :: r => match on'[q]? with
    | none => none
    | some true => eScan ls k on' out r
    | some false => match ls[q]? with
      | none => none
      | some l => match eScan ls k (on'.set q true) out l with
        | none => none
        | some (on1, out1) => eScan ls k on1 (q :: out1) r
def rLeave (ls : List (List Nat)) (k at' : Nat) (on' : List Bool) (out : List Nat) : Option (List Bool × List Nat) := match ls[at']? with
  | none => none
  | some l => match eScan ls k (on'.set at' true) out l with
    | none => none
    | some (on1, out1) => some (on1, at' :: out1)
theorem eScan_mono (ls : List (List Nat)) : ∀ (k : Nat) (on' : List Bool) (out l : List Nat) (R : List Bool × List Nat), eScan ls k on' out l = some R → ∀ K, k ≤ K → eScan ls K on' out l = some R
  | 0, on', out, l, R, h, K, hK => by rw [eScan] at h; cases h
  | k + 1, on', out, [], R, h, K, hK => by
    obtain ⟨K', rfl⟩ : ∃ K', K = K' + 1 := ⟨K - 1, by omega⟩
    rw [eScan] at h ⊢
    exact h
  | k + 1, on', out, q :: r, R, h, K, hK => by
    obtain ⟨K', rfl⟩ : ∃ K', K = K' + 1 := ⟨K - 1, by omega⟩
    rw [eScan] at h ⊢
    cases h1 : on'[q]? with
    | none => rw [h1] at h; cases h
    | some b =>
      rw [h1] at h
      cases b with
      | true => exact eScan_mono ls k _ _ _ R h K' (by omega)
      | false =>
        simp only at h ⊢
        cases h2 : ls[q]? with
        | none => rw [h2] at h; cases h
        | some l =>
          rw [h2] at h
          simp only at h ⊢
          cases h3 : eScan ls k (on'.set q true) out l with
          | none => rw [h3] at h; cases h
          | some S =>
            obtain ⟨on1, out1⟩ := S
            rw [h3] at h
            rw [eScan_mono ls k _ _ _ _ h3 K' (by omega)]
            exact eScan_mono ls k _ _ _ R h K' (by omega)

theorem dScan_e (g : List (List Int)) : ∀ (k : Nat) (d : GD) (p : Nat) (l : List Int) (d2 : GD) (o : List Nat), dScan g k d p l = some d2 → d.shut.length = g.length → (∀ y ∈ o, d.shut[y]? = some true) →
    eScan (gNorm g) k d.shut d.left.reverse (nlR g.length l o) = some (d2.shut, d2.left.reverse)
  | 0, d, p, l, d2, o, h, hl, ho => by rw [dScan] at h; cases h
  | k + 1, d, p, [], d2, o, h, hl, ho => by
    rw [dScan] at h
    injection h with h
    subst h
    rw [nlR, eScan]
  | k + 1, d, p, x :: r, d2, o, h, hl, ho => by
    rw [dScan] at h
    rw [nlR]
    split at h
    · rename_i hx
      obtain ⟨hxs, hxn, hx0⟩ := gOk_lt hx
      have hpt : gPt g.length x = true := by unfold gOk at hx; simp only [Bool.and_eq_true] at hx; exact hx.1
      have hno : gHas x o = false := by
        cases hh : gHas x o with
        | false => rfl
        | true =>
          obtain ⟨y, hy, e⟩ := (gHas_iff x o).1 hh
          have := ho y hy
          rw [show y = x.toNat by omega, hxs] at this
          cases this
      rw [if_pos (by rw [hpt, hno]; rfl), eScan, hxs]
      simp only
      split at h
      · cases h
      · rename_i Lx hLx
        split at h
        · cases h
        · rename_i d1 h1
          have hon := dScan_on g k _ _ _ _ h1 (by simp [hl])
          have i1 := dScan_e g k _ _ _ _ [] h1 (by simp [hl]) (fun y hy => by cases hy)
          rw [gNorm_get g _ Lx hLx, gNormL_nlR]
          simp only [List.nil_append] at i1 ⊢
          rw [i1]
          simp only
          have i2 := dScan_e g k _ _ _ _ (o ++ [x.toNat]) h hon.1 (fun y hy => by
            rcases List.mem_append.1 hy with e | e
            · exact hon.2.1 y (shut_set _ _ _ (ho y e))
            · rw [List.mem_singleton.1 e]
              exact hon.2.1 _ (by simp only [List.getElem?_set]; simp [hl, hxn]))
          simpa using i2
    · rename_i hx
      have i2 : ∀ o', (∀ y ∈ o', d.shut[y]? = some true) → eScan (gNorm g) k d.shut d.left.reverse (nlR g.length r o') = some (d2.shut, d2.left.reverse) := fun o' ho' => dScan_e g k _ _ _ _ o' h hl ho'
      split
      · rename_i hc
        simp only [Bool.and_eq_true] at hc
        have hxn : x.toNat < g.length := by have := hc.1; unfold gPt at this; simp at this; omega
        have hs : d.shut[x.toNat]? = some true := by
          cases hh : d.shut[x.toNat]? with
          | none => rw [List.getElem?_eq_none_iff] at hh; omega
          | some b => cases b with
            | true => rfl
            | false => exact absurd (by unfold gOk; rw [hc.1, hh]; rfl) hx
        rw [eScan, hs]
        simp only
        exact i2 _ (fun y hy => by
          rcases List.mem_append.1 hy with e | e
          · exact ho y e
          · rw [List.mem_singleton.1 e]; exact hs)
      · exact eScan_mono _ _ _ _ _ _ (i2 o ho) _ (by omega)

/-- The order of leaving. -/
theorem gWalk_order (g : List (List Int)) (K : Nat) (F : GW) (hn : g.length ≠ 0) (h : gWalk g K = some F) : ∃ k on1, rLeave (gNorm g) k 0 (List.replicate g.length false) [] = some (on1, F.left.reverse) := by
  obtain ⟨k, d2, e1, e2, e3⟩ := gWalk_d g K F hn h
  unfold dFrom at e1
  split at e1
  · cases e1
  · rename_i L hL
    split at e1
    · cases e1
    · rename_i d1 h1
      injection e1 with e1
      have i1 := dScan_e g k _ _ _ _ [] h1 (by simp [gNew, GW.gd]) (fun y hy => by cases hy)
      refine ⟨k, d1.shut, ?_⟩
      unfold rLeave
      rw [gNorm_get g 0 L hL, gNormL_nlR]
      simp only [List.nil_append] at i1 ⊢
      have i1' : eScan (gNorm g) k ((List.replicate g.length false).set 0 true) [] (nlR g.length L []) = some (d1.shut, d1.left.reverse) := i1
      rw [i1']
      have hF : F.left = d1.left ++ [0] := by
        have : F.gd.left = d1.left ++ [0] := by rw [e2, ← e1]
        exact this
      simp [hF]
end Go.Proofs.Ytpfjafjpijmckaa
