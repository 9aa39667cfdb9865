/- What the document's from marks: the points that a way without the barred one comes to. -/
import Derived.Test.YtpfjafjpijmckaaGrRh
set_option linter.unusedSimpArgs false
set_option linter.unusedVariables false
namespace Go.Proofs.Ytpfjafjpijmckaa
open Go.RowKit

/-- A way from one point to another one that keeps off a barred one. -/
inductive Way (ls : List (List Nat)) (bar : Int) (a : Nat) : Nat → Prop
  | nil : Way ls bar a a
  | step {b c : Nat} {l : List Nat} : Way ls bar a b → ls[b]? = some l → c ∈ l → (c : Int) ≠ bar → Way ls bar a c

theorem rScan_on (bar : Int) : ∀ (l : List Nat) (on' : List Bool) (todo : List Nat) (R : List Bool × List Nat), rScan bar l on' todo = some R →
    (∀ q, R.1[q]? = some true ↔ (on'[q]? = some true ∨ (q ∈ l ∧ (q : Int) ≠ bar))) ∧ (∀ q ∈ todo, q ∈ R.2) ∧ (∀ q ∈ R.2, q ∈ todo ∨ (q ∈ l ∧ (q : Int) ≠ bar)) ∧ (∀ q, R.1[q]? = some true → on'[q]? = some true ∨ q ∈ R.2)
  | [], on', todo, R, h => by
    rw [rScan] at h
    injection h with h
    subst h
    exact ⟨fun q => by simp, fun q hq => hq, fun q hq => Or.inl hq, fun q hq => Or.inl hq⟩
  | x :: r, on', todo, R, h => by
    rw [rScan] at h
    split at h
    · rename_i hx
      obtain ⟨h1, h2, h3, h4⟩ := rScan_on bar r on' todo R h
      refine ⟨fun q => ?_, h2, fun q hq => ?_, h4⟩
      · rw [h1 q]
        constructor
        · rintro (e | ⟨e, f⟩)
          · exact Or.inl e
          · exact Or.inr ⟨List.mem_cons_of_mem _ e, f⟩
        · rintro (e | ⟨e, f⟩)
          · exact Or.inl e
          · rcases List.mem_cons.1 e with e | e
            · exact absurd hx (by rw [← e]; exact f)
            · exact Or.inr ⟨e, f⟩
      · rcases h3 q hq with e | ⟨e, f⟩
        · exact Or.inl e
        · exact Or.inr ⟨List.mem_cons_of_mem _ e, f⟩
    · rename_i hx
      split at h
      · cases h
      · rename_i ht
        obtain ⟨h1, h2, h3, h4⟩ := rScan_on bar r on' todo R h
        refine ⟨fun q => ?_, h2, fun q hq => ?_, h4⟩
        · rw [h1 q]
          constructor
          · rintro (e | ⟨e, f⟩)
            · exact Or.inl e
            · exact Or.inr ⟨List.mem_cons_of_mem _ e, f⟩
          · rintro (e | ⟨e, f⟩)
            · exact Or.inl e
            · rcases List.mem_cons.1 e with e | e
              · exact Or.inl (by rw [e]; exact ht)
              · exact Or.inr ⟨e, f⟩
        · rcases h3 q hq with e | ⟨e, f⟩
          · exact Or.inl e
          · exact Or.inr ⟨List.mem_cons_of_mem _ e, f⟩
      · rename_i ht
        obtain ⟨h1, h2, h3, h4⟩ := rScan_on bar r (on'.set x true) (todo ++ [x]) R h
        have hxl : x < on'.length := by
          rcases List.getElem?_eq_some_iff.1 ht with ⟨hh, _⟩
          exact hh
        have hs : ∀ q, (on'.set x true)[q]? = some true ↔ (on'[q]? = some true ∨ q = x) := by
          intro q
          rw [List.getElem?_set]
          by_cases e : x = q
          · subst e; simp [hxl]
          · rw [if_neg e]
            constructor
            · exact Or.inl
            · rintro (f | f)
              · exact f
              · exact absurd f.symm e
        refine ⟨fun q => ?_, fun q hq => h2 q (List.mem_append_left _ hq), fun q hq => ?_, fun q hq => ?_⟩
        · rw [h1 q, hs q]
          constructor
          · rintro ((e | e) | ⟨e, f⟩)
            · exact Or.inl e
            · exact Or.inr ⟨by rw [e]; exact List.mem_cons_self .., by rw [e]; exact hx⟩
            · exact Or.inr ⟨List.mem_cons_of_mem _ e, f⟩
          · rintro (e | ⟨e, f⟩)
            · exact Or.inl (Or.inl e)
            · rcases List.mem_cons.1 e with e | e
              · exact Or.inl (Or.inr e)
              · exact Or.inr ⟨e, f⟩
        · rcases h3 q hq with e | ⟨e, f⟩
          · rcases List.mem_append.1 e with e | e
            · exact Or.inl e
            · rw [List.mem_singleton.1 e]
              exact Or.inr ⟨List.mem_cons_self .., hx⟩
          · exact Or.inr ⟨List.mem_cons_of_mem _ e, f⟩
        · rcases h4 q hq with e | e
          · rcases (hs q).1 e with e | e
            · exact Or.inl e
            · exact Or.inr (h2 q (by rw [e]; exact List.mem_append_right _ (List.mem_singleton.2 rfl)))
          · exact Or.inr e

theorem rRun_on (ls : List (List Nat)) (bar : Int) (a : Nat) : ∀ (k : Nat) (on' : List Bool) (todo : List Nat) (F : List Bool), rRun ls bar k on' todo = some F →
    (∀ q, on'[q]? = some true → Way ls bar a q) → (∀ q ∈ todo, on'[q]? = some true) → on'[a]? = some true →
    (∀ p, on'[p]? = some true → p ∉ todo → ∀ l, ls[p]? = some l → ∀ c ∈ l, (c : Int) ≠ bar → on'[c]? = some true) →
    ∀ q, F[q]? = some true ↔ Way ls bar a q
  | 0, on', todo, F, h, _, _, _, _ => by rw [rRun] at h; cases h
  | k + 1, on', todo, F, h, h1, h2, h3, h4 => by
    rw [rRun] at h
    split at h
    · rename_i hl
      injection h with h
      subst h
      have ht : todo = [] := List.getLast?_eq_none_iff.1 hl
      subst ht
      intro q
      refine ⟨h1 q, fun hw => ?_⟩
      induction hw with
      | nil => exact h3
      | step _ e f g ih => exact h4 _ ih (by simp) _ e _ f g
    · rename_i p hp
      split at h
      · cases h
      · rename_i l hl
        split at h
        · cases h
        · rename_i on2 todo2 hs
          obtain ⟨s1, s2, s3, s4⟩ := rScan_on bar l on' todo.dropLast _ hs
          simp only at s1 s2 s3 s4
          have hpt : p ∈ todo := List.mem_of_getLast? hp
          have hpo := h2 p hpt
          have hd : ∀ q ∈ todo, q ∈ todo.dropLast ∨ q = p := by
            intro q hq
            obtain ⟨ys, e⟩ := List.getLast?_eq_some_iff.1 hp
            rw [e] at hq
            rcases List.mem_append.1 hq with f | f
            · exact Or.inl (by rw [e, List.dropLast_concat]; exact f)
            · exact Or.inr (List.mem_singleton.1 f)
          refine rRun_on ls bar a k on2 todo2 F h (fun q hq => ?_) (fun q hq => ?_) ((s1 a).2 (Or.inl h3)) (fun q hq hn l' hl' c hc hb => ?_)
          · rcases (s1 q).1 hq with e | ⟨e, f⟩
            · exact h1 q e
            · exact .step (h1 p hpo) hl e f
          · rcases s3 q hq with e | ⟨e, f⟩
            · exact (s1 q).2 (Or.inl (h2 q (List.dropLast_subset _ e)))
            · exact (s1 q).2 (Or.inr ⟨e, f⟩)
          · rcases s4 q hq with e | e
            · by_cases hqp : q = p
              · subst hqp
                rw [hl] at hl'
                injection hl' with hl'
                subst hl'
                exact (s1 c).2 (Or.inr ⟨hc, hb⟩)
              · have hqt : q ∉ todo := fun ht => (hd q ht).elim (fun f => hn (s2 q f)) hqp
                exact (s1 c).2 (Or.inl (h4 q e hqt l' hl' c hc hb))
            · exact absurd e hn

/-- What from marks. -/
theorem rFrom_on (ls : List (List Nat)) (at' bar : Int) (K : Nat) (F : List Bool) (h : rFrom ls at' bar K = some F) (q : Nat) :
    F[q]? = some true ↔ (0 ≤ at' ∧ at' < ls.length ∧ at' ≠ bar ∧ Way ls bar at'.toNat q) := by
  unfold rFrom at h
  split at h
  · rename_i hc
    injection h with h
    subst h
    constructor
    · intro e
      rw [List.getElem?_replicate] at e
      split at e
      · injection e with e; cases e
      · cases e
    · rintro ⟨a, b, c, _⟩
      rcases hc with e | e | e
      · omega
      · omega
      · exact absurd e c
  · rename_i hc
    have hb : at'.toNat < ls.length := by omega
    have hs : ∀ q, ((List.replicate ls.length false).set at'.toNat true)[q]? = some true ↔ q = at'.toNat := by
      intro q
      rw [List.getElem?_set]
      by_cases e : at'.toNat = q
      · subst e; simp [hb]
      · rw [if_neg e, List.getElem?_replicate]
        constructor
        · intro f
          split at f
          · injection f with f; cases f
          · cases f
        · intro f; exact absurd f.symm e
    rw [rRun_on ls bar at'.toNat K _ _ F h (fun q hq => by rw [(hs q).1 hq]; exact .nil) (fun q hq => (hs q).2 (List.mem_singleton.1 hq)) ((hs _).2 rfl) (fun p hp hn => absurd (List.mem_singleton.2 ((hs p).1 hp)) hn) q]
    constructor
    · intro hw; exact ⟨by omega, by omega, fun e => hc (Or.inr (Or.inr e)), hw⟩
    · rintro ⟨_, _, _, hw⟩; exact hw
end Go.Proofs.Ytpfjafjpijmckaa
