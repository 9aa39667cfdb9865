/- A function's registers; a program's first error. -/
import Derived.Test.YtggpehmljpanjabStkVt
set_option linter.unusedSimpArgs false
set_option linter.unusedVariables false
set_option maxRecDepth 10000
namespace Go.Proofs.Ytggpehmljpanjab
open Go.RowKit

/-- The greatest height. -/
def kMost : List Int → Int → Int
  | [], n => n
  | x :: r, n => kMost r (if x < n then n else x)
def kVirt (fns : List KF) (fn : Int) (K : Nat) : Option (Int × Int) :=
  match kHgt fns fn K with
  | none => none
  | some q => if q.2 = 0 then (match fns[fn.toNat]? with
    | none => none
    | some f => if 200 < f.lc + kMost q.1 0 then some (0, 5) else some (f.lc + kMost q.1 0, 0)) else some (0, q.2)
def kChkL (fns : List KF) (K : Nat) : Nat → Nat → Option Int
  | 0, _ => some 0
  | m + 1, j => match kHgt fns (j : Int) K with
    | none => none
    | some q => if q.2 = 0 then kChkL fns K m (j + 1) else some q.2
def kChk (fns : List KF) (m : Int) (K : Nat) : Option Int :=
  if 16 < fns.length then some 3 else if kPl m fns.length then (match fns[m.toNat]? with
    | none => none
    | some f => if f.ps = 0 then kChkL fns K fns.length 0 else some 3) else some 3

theorem kMost_drop {l : List Int} {k : Nat} {x : Int} (h : l[k]? = some x) (n : Int) : kMost (l.drop k) n = kMost (l.drop (k + 1)) (if x < n then n else x) := by
  obtain ⟨h1, h2⟩ := List.getElem?_eq_some_iff.1 h
  rw [List.drop_eq_getElem_cons h1, h2, kMost]
theorem kMost_b {l : List Int} (h : ∀ x ∈ l, -1 ≤ x ∧ x ≤ 64) : ∀ n, 0 ≤ n → n ≤ 64 → 0 ≤ kMost l n ∧ kMost l n ≤ 64 := by
  induction l with
  | nil => intro n h1 h2; exact ⟨h1, h2⟩
  | cons x r ih =>
    intro n h1 h2
    rw [kMost]
    have hx := h x (List.mem_cons_self ..)
    refine ih (fun y hy => h y (List.mem_cons_of_mem _ hy)) _ ?_ ?_
    all_goals split <;> omega

theorem Ext.drewNk (w : World) (n : Nat) : Ext w (w.drewN n) := by
  induction n with
  | zero => exact Ext.refl _
  | succ n ih => exact Ext.drew ih

theorem kRun_len (code : List KI) : ∀ (k : Nat) (st r : KW), kRun code k st = some r → r.hs.length = st.hs.length := by
  intro k
  induction k with
  | zero => intro st r h; rw [kRun] at h; cases h
  | succ k ih =>
    intro st r h
    rw [kRun] at h
    split at h
    · injection h with h; rw [h]
    · split at h
      · injection h with h; rw [h]
      · rw [ih _ _ h]
        exact (kLeave_len code _ _).1
theorem kHts_len {code : List KI} {K : Nat} {hs : List Int} (h : kHts code K = some (some hs)) : hs.length = code.length := by
  unfold kHts at h
  cases hr : kRun code K (kCome code.length ⟨List.replicate code.length (-1), [], false⟩ 0 0) with
  | none => rw [hr] at h; cases h
  | some st =>
    rw [hr] at h
    simp only at h
    split at h
    · simp at h
    · injection h with h
      injection h with h
      rw [← h, kRun_len code _ _ _ hr, (kCome_len _ _ _ _).1]
      simp

theorem kHgt_at {fns : List KF} {fn : Int} {K : Nat} {q : List Int × Int} (h : kHgt fns fn K = some q) (h0 : q.2 = 0) : ∃ (z : Nat) (f : KF), fn = z ∧ z < fns.length ∧ fns[z]? = some f ∧ -1000000 ≤ f.lc ∧ f.lc ≤ 1000000 := by
  unfold kHgt at h
  cases hf : kForm fns fn with
  | false =>
    rw [hf, if_neg (by decide)] at h
    injection h with h
    subst h
    simp at h0
  | true =>
    have hx : 0 ≤ fn ∧ fn < (fns.length : Int) := Decidable.byContradiction fun h => by rw [kForm_out h] at hf; cases hf
    obtain ⟨z, rfl⟩ : ∃ z : Nat, fn = z := ⟨fn.toNat, by omega⟩
    obtain ⟨f, hg⟩ : ∃ f, fns[z]? = some f := ⟨_, List.getElem?_eq_getElem (by omega)⟩
    rw [kForm_at hg] at hf
    simp only [Bool.and_eq_true] at hf
    obtain ⟨a1, a2, a3, _⟩ := hf
    have a1 := of_decide_eq_true a1
    have a2 := of_decide_eq_true a2
    have a3 := of_decide_eq_true a3
    exact ⟨z, f, rfl, by omega, hg, by omega, by omega⟩

theorem kChkL_step (fns : List KF) (K : Nat) {n k : Nat} (hk : k < n) : kChkL fns K (n - k) k = match kHgt fns (k : Int) K with
    | none => none
    | some q => if q.2 = 0 then kChkL fns K (n - (k + 1)) (k + 1) else some q.2 := by
  rw [show n - k = (n - (k + 1)) + 1 by omega, kChkL]

end Go.Proofs.Ytggpehmljpanjab
