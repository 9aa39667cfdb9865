/- A law of no program: a scope with two labels, the one jumped back to, the other a way out. -/
import Derived.Test.YtggpehmljpanjaaStkLv
import Derived.ScopeJumps
set_option linter.unusedSimpArgs false
set_option linter.unusedVariables false
set_option maxRecDepth 10000
namespace Go.Proofs.Ytggpehmljpanjaa
open Go.RowKit

/-- Jumps as J says; else as Q says. -/
def KJump (J : Nat → Act → World → Prop) (Q : Exit → Act → World → Prop) : Exit → Act → World → Prop
  | .goto l, a, w => J l a w
  | e, a, w => Q e a w

theorem k_scope_many {P : Program} {a : Act} {w : World} {Q : Exit → Act → World → Prop} {c : Code} (J : Nat → Nat → Act → World → Prop) (R : Nat → Code) (hf : ∀ l k a w, J l k a w → findLabel c l = some (R l))
    (first : c.wp P (KJump (fun l a w => ∃ k, J l k a w) Q) a w)
    (pass : ∀ l k a w, J l k a w → (R l).wp P (KJump (fun l' a' w' => ∃ k', k' < k ∧ J l' k' a' w') Q) a w) : (Code.scope c).wp P Q a w := by
  intro b k cs
  have key : ∀ n l a w, J l n a w → ∃ e a' w', Q e a' w' ∧ Arrives P (lone (b.at a (.code (R l) :: .inScope c :: k)) cs w) b k cs e a' w' := by
    intro n
    induction n using Nat.strongRecOn with
    | _ n ih =>
      intro l a w hJ
      obtain ⟨e, a₁, w₁, hq, harr⟩ := pass l n a w hJ b (.inScope c :: k) cs
      cases e with
      | normal => exact ⟨.normal, a₁, w₁, hq, Steps.trans harr (.one step_inScope)⟩
      | exit id => exact ⟨.exit id, a₁, w₁, hq, fun k' hk => harr k' (by simp [exitTo, hk])⟩
      | goto l' =>
        obtain ⟨n', hlt, hJ'⟩ := hq
        obtain ⟨e₂, a₂, w₂, hq₂, harr₂⟩ := ih n' hlt l' a₁ w₁ hJ'
        have hg : gotoIn l' (.inScope c :: k) = some (.code (R l') :: .inScope c :: k) := by simp [gotoIn, hf l' n' a₁ w₁ hJ']
        exact ⟨e₂, a₂, w₂, hq₂, .of_steps (harr _ hg) harr₂⟩
      | ret => exact ⟨_, a₁, w₁, hq, harr⟩
      | panic ch => exact ⟨_, a₁, w₁, hq, harr⟩
      | outgrown => exact ⟨_, a₁, w₁, hq, harr⟩
  obtain ⟨e, a₁, w₁, hq, harr⟩ := first b (.inScope c :: k) cs
  cases e with
  | normal => exact ⟨.normal, a₁, w₁, hq, .head step_scope (Steps.trans harr (.one step_inScope))⟩
  | exit id => exact ⟨.exit id, a₁, w₁, hq, fun k' hk => .head step_scope (harr k' (by simp [exitTo, hk]))⟩
  | goto l' =>
    obtain ⟨n', hJ'⟩ := hq
    obtain ⟨e₂, a₂, w₂, hq₂, harr₂⟩ := key n' l' a₁ w₁ hJ'
    have hg : gotoIn l' (.inScope c :: k) = some (.code (R l') :: .inScope c :: k) := by simp [gotoIn, hf l' n' a₁ w₁ hJ']
    exact ⟨e₂, a₂, w₂, hq₂, .of_steps (.head step_scope (harr _ hg)) harr₂⟩
  | ret => exact ⟨_, a₁, w₁, hq, .of_steps (.one step_scope) harr⟩
  | panic ch => exact ⟨_, a₁, w₁, hq, .of_steps (.one step_scope) harr⟩
  | outgrown => exact ⟨_, a₁, w₁, hq, .of_steps (.one step_scope) harr⟩

/-- A jump back to l1 or out to l0. -/
def KTwo (l1 l0 : Nat) (J1 J0 : Act → World → Prop) (Q : Exit → Act → World → Prop) : Exit → Act → World → Prop
  | .goto l, a, w => (l = l1 ∧ J1 a w) ∨ (l = l0 ∧ J0 a w)
  | e, a, w => Q e a w
theorem KTwo.imp {l1 l0 : Nat} {J1 J1' J0 : Act → World → Prop} {Q : Exit → Act → World → Prop} (h : ∀ a w, J1 a w → J1' a w) : ∀ e a w, KTwo l1 l0 J1 J0 Q e a w → KTwo l1 l0 J1' J0 Q e a w := by
  intro e a w hq
  cases e with
  | goto l => exact Or.imp (fun x => ⟨x.1, h a w x.2⟩) id hq
  | _ => exact hq

theorem k_scope_two {P : Program} {a : Act} {w : World} {Q : Exit → Act → World → Prop} {c rest1 rest0 : Code} (l1 l0 : Nat) (hne : l0 ≠ l1) (J1 : Nat → Act → World → Prop) (J0 : Act → World → Prop)
    (hf1 : findLabel c l1 = some (Code.skip.seq rest1)) (hf0 : findLabel c l0 = some (Code.skip.seq rest0))
    (pass1 : ∀ k a w, J1 k a w → rest1.wp P (KTwo l1 l0 (fun a' w' => ∃ k', k' < k ∧ J1 k' a' w') J0 Q) a w)
    (pass0 : ∀ a w, J0 a w → rest0.wp P (Exit.noGoto Q) a w)
    (first : (∀ k a w, J1 k a w → rest1.wp P (KTwo l1 l0 (fun a' w' => ∃ k, J1 k a' w') J0 Q) a w) → c.wp P (KTwo l1 l0 (fun a' w' => ∃ k, J1 k a' w') J0 Q) a w) : (Code.scope c).wp P Q a w := by
  refine k_scope_many (fun l k a w => (l = l1 ∧ ∃ k1, k = k1 + 1 ∧ J1 k1 a w) ∨ (l = l0 ∧ k = 0 ∧ J0 a w)) (fun l => if l = l1 then Code.skip.seq rest1 else Code.skip.seq rest0) ?_ ?_ ?_
  · rintro l k a w (⟨rfl, _⟩ | ⟨rfl, _⟩)
    · rw [if_pos rfl]; exact hf1
    · rw [if_neg hne]; exact hf0
  · refine Code.wp_mono ?_ (first fun k a w h => by
      refine Code.wp_mono (KTwo.imp ?_) (pass1 k a w h)
      rintro a w ⟨k', _, h⟩
      exact ⟨k', h⟩)
    intro e a w hq
    cases e with
    | goto l =>
      rcases hq with ⟨e, k, h⟩ | ⟨e, h⟩
      · exact ⟨k + 1, Or.inl ⟨e, k, rfl, h⟩⟩
      · exact ⟨0, Or.inr ⟨e, rfl, h⟩⟩
    | _ => exact hq
  · rintro l k a w (⟨rfl, k1, rfl, h⟩ | ⟨rfl, rfl, h⟩)
    · rw [if_pos rfl]
      refine wp_seq (wp_skip (Code.wp_mono ?_ (pass1 k1 a w h)))
      intro e a w hq
      cases e with
      | goto l =>
        rcases hq with ⟨e, k, hk, h⟩ | ⟨e, h⟩
        · exact ⟨k + 1, by omega, Or.inl ⟨e, k, rfl, h⟩⟩
        · exact ⟨0, by omega, Or.inr ⟨e, rfl, h⟩⟩
      | _ => exact hq
    · rw [if_neg hne]
      refine wp_seq (wp_skip (Code.wp_mono ?_ (pass0 a w h)))
      intro e a w hq
      cases e with
      | goto l => exact hq.elim
      | _ => exact hq

end Go.Proofs.Ytggpehmljpanjaa
