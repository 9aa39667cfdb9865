/- The walk itself: from a point wherever it leads, and back again. -/
import Derived.Test.YtjopfpchbakggaaGrWk
set_option linter.unusedSimpArgs false
set_option linter.unusedVariables false
set_option maxRecDepth 10000
namespace Go.Proofs.Ytjopfpchbakggaa
open Go.RowKit

/-- A jump to l0 or to l1. -/
def KB (l0 l1 : Nat) (I0 I1 : Act → World → Prop) (Q : Exit → Act → World → Prop) : Exit → Act → World → Prop
  | .goto l, a, w => (l = l0 ∧ I0 a w) ∨ (l = l1 ∧ I1 a w)
  | e, a, w => Q e a w
theorem KB.imp {l0 l1 : Nat} {I0 I1 J0 J1 : Act → World → Prop} {Q : Exit → Act → World → Prop} (h0 : ∀ a w, I0 a w → J0 a w) (h1 : ∀ a w, I1 a w → J1 a w) : ∀ e a w, KB l0 l1 I0 I1 Q e a w → KB l0 l1 J0 J1 Q e a w := by
  intro e a w hq
  cases e with
  | goto l => exact Or.imp (fun x => ⟨x.1, h0 a w x.2⟩) (fun x => ⟨x.1, h1 a w x.2⟩) hq
  | _ => exact hq
/-- A scope with two labels, both jumped back to, the first flowing into the second. -/
theorem k_scope_back {P : Program} {a : Act} {w : World} {Q : Exit → Act → World → Prop} {c rest0 rest1 : Code} (l0 l1 : Nat) (hne : l1 ≠ l0) (J0 J1 : Nat → Act → World → Prop)
    (hf0 : findLabel c l0 = some (Code.skip.seq rest0)) (hf1 : findLabel c l1 = some (Code.skip.seq rest1))
    (pass1 : ∀ k a w, J1 k a w → rest1.wp P (KB l0 l1 (fun a' w' => ∃ k', k' < k ∧ J0 k' a' w') (fun a' w' => ∃ k', k' < k ∧ J1 k' a' w') Q) a w)
    (pass0 : ∀ k, (∀ a w, J1 k a w → rest1.wp P (KB l0 l1 (fun a' w' => ∃ k', k' < k ∧ J0 k' a' w') (fun a' w' => ∃ k', k' < k ∧ J1 k' a' w') Q) a w) → ∀ a w, J0 k a w → rest0.wp P (KB l0 l1 (fun a' w' => ∃ k', k' < k ∧ J0 k' a' w') (fun a' w' => ∃ k', k' < k ∧ J1 k' a' w') Q) a w)
    (first : (∀ k a w, J0 k a w → rest0.wp P (KB l0 l1 (fun a' w' => ∃ k, J0 k a' w') (fun a' w' => ∃ k, J1 k a' w') Q) a w) → c.wp P (KB l0 l1 (fun a' w' => ∃ k, J0 k a' w') (fun a' w' => ∃ k, J1 k a' w') Q) a w) : (Code.scope c).wp P Q a w := by
  refine k_scope_many (fun l k a w => (l = l0 ∧ J0 k a w) ∨ (l = l1 ∧ J1 k a w)) (fun l => if l = l0 then Code.skip.seq rest0 else Code.skip.seq rest1) ?_ ?_ ?_
  · rintro l k a w (⟨rfl, _⟩ | ⟨rfl, _⟩)
    · rw [if_pos rfl]; exact hf0
    · rw [if_neg hne]; exact hf1
  · refine Code.wp_mono ?_ (first fun k a w h => by
      refine Code.wp_mono (KB.imp ?_ ?_) (pass0 k (pass1 k) a w h)
      · rintro a w ⟨k', _, h⟩; exact ⟨k', h⟩
      · rintro a w ⟨k', _, h⟩; exact ⟨k', h⟩)
    intro e a w hq
    cases e with
    | goto l =>
      rcases hq with ⟨e, k, h⟩ | ⟨e, k, h⟩
      · exact ⟨k, Or.inl ⟨e, h⟩⟩
      · exact ⟨k, Or.inr ⟨e, h⟩⟩
    | _ => exact hq
  · rintro l k a w (⟨rfl, h⟩ | ⟨rfl, h⟩)
    · rw [if_pos rfl]
      refine wp_seq (wp_skip (Code.wp_mono ?_ (pass0 k (pass1 k) a w h)))
      intro e a w hq
      cases e with
      | goto l =>
        rcases hq with ⟨e, k', hk, h⟩ | ⟨e, k', hk, h⟩
        · exact ⟨k', hk, Or.inl ⟨e, h⟩⟩
        · exact ⟨k', hk, Or.inr ⟨e, h⟩⟩
      | _ => exact hq
    · rw [if_neg hne]
      refine wp_seq (wp_skip (Code.wp_mono ?_ (pass1 k a w h)))
      intro e a w hq
      cases e with
      | goto l =>
        rcases hq with ⟨e, k', hk, h⟩ | ⟨e, k', hk, h⟩
        · exact ⟨k', hk, Or.inl ⟨e, h⟩⟩
        · exact ⟨k', hk, Or.inr ⟨e, h⟩⟩
      | _ => exact hq

/-- Of each point its next place lies in its list; the rows are no longer than steps were made. -/
structure WOk (g : List (List Int)) (K k : Nat) (st : GW) : Prop where
  nx : ∀ (p x : Nat) (l : List Int), st.next[p]? = some x → g[p]? = some l → x ≤ l.length
  mq : st.met.length + k ≤ K + 1
  lk : st.left.length + k ≤ K
theorem WOk.step {g : List (List Int)} {K k : Nat} {st : GW} (h : WOk g K (k + 1) st) {p x : Nat} {l : List Int} (hx : st.next[p]? = some x) (hl : g[p]? = some l) (sh : List Bool) : ∀ (q y : Nat) (l' : List Int), (st.next.set p (x + (gScan g.length sh (l.drop x)).1))[q]? = some y → g[q]? = some l' → y ≤ l'.length := by
  intro q y l' hy hl'
  rw [List.getElem?_set] at hy
  split at hy
  · rename_i e
    subst e
    split at hy
    · injection hy with hy
      rw [hl] at hl'
      injection hl' with hl'
      subst hl' hy
      have h1 := gScan_le g.length sh (l.drop x)
      have h2 := h.nx _ _ _ hx hl
      rw [List.length_drop] at h1
      omega
    · cases hy
  · exact h.nx _ _ _ hy hl'

theorem gScan_lt (n : Nat) (sh : List Bool) : ∀ (l : List Int) (q : Nat), (gScan n sh l).2 = some q → q < n
  | [], q, h => by simp [gScan] at h
  | x :: r, q, h => by
    rw [gScan] at h
    split at h
    · rename_i hc
      simp [gPt] at hc h
      omega
    · exact gScan_lt n sh r q h

end Go.Proofs.Ytjopfpchbakggaa
