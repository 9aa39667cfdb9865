/- The drawn region of StackWays, in whatever order its operations come. -/
import Derived.Test.YtggpehmljpanjaaStkRf
import Derived.Test.YtggpehmljpanjaaAnyInv
set_option linter.unusedSimpArgs false
set_option linter.unusedVariables false
set_option maxRecDepth 10000
namespace Go.Proofs.Ytggpehmljpanjaa
open Go.RowKit

theorem wpOp_want {P : Program} {ops : Array Oper} {Q : Exit → Act → World → Prop} {i : Nat} {o : Oper} {K : Act → World → Prop} {a : Act} {w : World} (hi : ops[i]? = some o) (hw : Region.wanted o (yielded ops a.tmps) = true) (h : o.wp P a w K Q) : wpOp P ops Q i K a w := by
  unfold wpOp
  rw [hi]
  simp only [hw, if_true]
  exact Or.inl h

theorem wp_call_xs {P : Program} {w : World} {o : Oper} {a : Act} {K : Act → World → Prop} {Q : Exit → Act → World → Prop}
    (f : FuncId) (xs : Array Operand) (ts : Array TypeId) (hop : o.op = Op.call { callee := Callee.value (.func f), args := xs, argTypes := ts })
    (vs : Array Value) (hx : xs.map a.eval = vs) (hf : (callFunc f vs).run P w = .ok (.enter f vs) w) (hK : Calls P f vs w fun e w' => ∃ u, e = .returned u ∧ K (a.put o.dst u) w') : o.wp P a w K Q := by
  have he : a.eval (.func f) = .func (.func f) #[] #[] := rfl
  unfold Oper.wp
  have hrun : (execOp a.eval o).run P w = .ok (.enter f vs) w := by
    simp [execOp, hop, resolve, invoke, hx, he, Result.andThen, Deferred.ofValue, hf]
  rw [hrun, Oper.upon_enter]
  refine hK.mono ?_
  rintro e w' ⟨u, rfl, h⟩
  exact h

theorem enter1 (v : Value) (W : World) : (callFunc 10 #[v]).run Try.prog W = .ok (.enter 10 #[v]) W := by kernel_rfl
theorem enter2 (v : Value) (W : World) : (callFunc 11 #[v]).run Try.prog W = .ok (.enter 11 #[v]) W := by kernel_rfl
theorem enter3 (v : Value) (W : World) : (callFunc 12 #[v]).run Try.prog W = .ok (.enter 12 #[v]) W := by kernel_rfl
theorem enter4 (v : Value) (W : World) : (callFunc 13 #[v]).run Try.prog W = .ok (.enter 13 #[v]) W := by kernel_rfl
theorem enter5 (v u : Value) (W : World) : (callFunc 15 #[v, u]).run Try.prog W = .ok (.enter 15 #[v, u]) W := by kernel_rfl
theorem enter6 (v u : Value) (W : World) : (callFunc 16 #[v, u]).run Try.prog W = .ok (.enter 16 #[v, u]) W := by kernel_rfl
theorem enter7 (v u : Value) (W : World) : (callFunc 14 #[v, u]).run Try.prog W = .ok (.enter 14 #[v, u]) W := by kernel_rfl

def regionAtW (n : Nat) : Code → Option Code
  | .region id ops b => if id = n then some (.region id ops b) else none
  | .seq a b => match regionAtW n a with
    | some c => some c
    | none => regionAtW n b
  | .loop c => regionAtW n c
  | .block _ c => regionAtW n c
  | .scope c => regionAtW n c
  | .cond _ a b => match regionAtW n a with
    | some c => some c
    | none => regionAtW n b
  | _ => none

/-- What an operation's slot holds once it has come up. -/
def PhiW (b o n cap k : Nat) (p x y PV UV : Int) (NX : List Int) (w : World) : Nat → Option Value → Prop
  | 0, v => v = some (.slice (some ⟨b, o, none⟩) n cap)
  | 1, v => v = some (.int .i64 (k : Int))
  | 2, v => v = some (.pointer (some ⟨b, o + k * 3, none⟩))
  | 3, v => v = some (kiV ⟨p, x, y⟩)
  | 4, v => v = some (.int .i64 PV)
  | 5, v => v = some (.slice (some ⟨b, o, none⟩) n cap)
  | 6, v => v = some (.int .i64 (k : Int))
  | 7, v => v = some (.pointer (some ⟨b, o + k * 3, none⟩))
  | 8, v => v = some (kiV ⟨p, x, y⟩)
  | 9, v => v = some (.int .i64 PV)
  | 10, v => v = some (.bool false)
  | 11, v => v = some (.bool false)
  | 12, v => v = some (.slice (some ⟨b, o, none⟩) n cap)
  | 13, v => v = some (.int .i64 (k : Int))
  | 14, v => v = some (.pointer (some ⟨b, o + k * 3, none⟩))
  | 15, v => v = some (kiV ⟨p, x, y⟩)
  | 16, v => v = some (.int .i64 UV)
  | 17, v => v = some (.slice (some ⟨b, o, none⟩) n cap)
  | 18, v => v = some (.int .i64 (k : Int))
  | 19, v => v = some (.pointer (some ⟨b, o + k * 3, none⟩))
  | 20, v => v = some (kiV ⟨p, x, y⟩)
  | 21, v => v = some (.int .i64 UV)
  | 22, v => v = some (.bool false)
  | 23, v => v = some (.bool false)
  | 24, v => v = some (.bool false)
  | 25, v => v = some (.slice (some ⟨b, o, none⟩) n cap)
  | 26, v => v = some (.int .i64 (k : Int))
  | 27, v => ∃ yb yc, v = some (.slice yb NX.length yc) ∧ RepZ w (In w) yb NX
  | 28, v => v = some (.slice (some ⟨b, o, none⟩) n cap)
  | 29, v => v = some (.int .i64 (k : Int))
  | 30, v => ∃ yb yc, v = some (.slice yb NX.length yc) ∧ RepZ w (In w) yb NX
  | 31, v => v = some (.bool true)
  | 32, v => v = some (.bool false)
  | 33, v => v = some (.bool false)
  | _, _ => True

theorem PhiW.on {b o n cap k : Nat} {p x y PV UV : Int} {NX : List Int} {w w' : World} (e : Ext w w') : ∀ {i : Nat} {v : Option Value}, PhiW b o n cap k p x y PV UV NX w i v → PhiW b o n cap k p x y PV UV NX w' i v := by
  intro i v h
  match i, h with
  | 0, h => exact h
  | 1, h => exact h
  | 2, h => exact h
  | 3, h => exact h
  | 4, h => exact h
  | 5, h => exact h
  | 6, h => exact h
  | 7, h => exact h
  | 8, h => exact h
  | 9, h => exact h
  | 10, h => exact h
  | 11, h => exact h
  | 12, h => exact h
  | 13, h => exact h
  | 14, h => exact h
  | 15, h => exact h
  | 16, h => exact h
  | 17, h => exact h
  | 18, h => exact h
  | 19, h => exact h
  | 20, h => exact h
  | 21, h => exact h
  | 22, h => exact h
  | 23, h => exact h
  | 24, h => exact h
  | 25, h => exact h
  | 26, h => exact h
  | 27, h => obtain ⟨yb, yc, h1, h2⟩ := h; exact ⟨yb, yc, h1, h2.ext e⟩
  | 28, h => exact h
  | 29, h => exact h
  | 30, h => obtain ⟨yb, yc, h1, h2⟩ := h; exact ⟨yb, yc, h1, h2.ext e⟩
  | 31, h => exact h
  | 32, h => exact h
  | 33, h => exact h
  | _ + 34, _ => trivial

abbrev ltW (l : Array Bool) (i : Nat) : Prop := l[i]?.getD false = true
theorem not_ltW {l : Array Bool} {i : Nat} (h : l[i]?.getD true = false) : ¬ ltW l i := by
  unfold ltW
  cases hl : l[i]? with
  | none => rw [hl] at h; cases h
  | some b => rw [hl] at h; cases b <;> simp_all
theorem ltW_set {l : Array Bool} {i j : Nat} (hi : i < l.size) : ltW (l.setIfInBounds i true) j ↔ j = i ∨ ltW l j := by
  unfold ltW
  rw [Array.getElem?_setIfInBounds]
  by_cases h : i = j
  · subst h
    simp [hi]
  · simp [h, Ne.symm h]
theorem atW {T : Array Value} {i : Nat} {v : Value} (h : T[i]? = some v) (hi : i < T.size) : T[i] = v := by
  rw [Array.getElem?_eq_getElem hi] at h
  exact Option.some.inj h

/-- What holds behind each set of operations that have come up. -/
structure InvW (A : Array Value) (W : World) (b o n cap k : Nat) (p x y PV UV : Int) (NX : List Int) (l : Array Bool) (a : Act) (w : World) : Prop where
  sz : l.size = 34
  d : a.defers = []
  len : a.tmps.size = 60
  keep : ∀ j, (j < 16 ∨ 50 ≤ j) → a.tmps[j]? = A[j]?
  ext : Ext W w
  ph : ∀ i, i < 34 → ltW l i → PhiW b o n cap k p x y PV UV NX w i a.tmps[16 + i]?

theorem InvW.step {A : Array Value} {W : World} {b o n cap k : Nat} {p x y PV UV : Int} {NX : List Int} {l : Array Bool} {T : Array Value} {w w' : World} (h : InvW A W b o n cap k p x y PV UV NX l ⟨T, []⟩ w) (i : Nat) (hi : i < 34) (v : Value) (e : Ext w w')
    (hv : PhiW b o n cap k p x y PV UV NX w' i (some v)) : InvW A W b o n cap k p x y PV UV NX (l.setIfInBounds i true) ⟨T.setIfInBounds (16 + i) v, []⟩ w' := by
  have hlen : T.size = 60 := h.len
  refine ⟨by simp [h.sz], rfl, by simp [hlen], fun j hj => ?_, h.ext.trans e, fun j hj hlt => ?_⟩
  · show (T.setIfInBounds (16 + i) v)[j]? = _
    rw [Array.getElem?_setIfInBounds, if_neg (by omega)]
    exact h.keep j hj
  · show PhiW b o n cap k p x y PV UV NX w' j ((T.setIfInBounds (16 + i) v)[16 + j]?)
    rw [Array.getElem?_setIfInBounds]
    by_cases hji : i = j
    · subst hji
      rw [if_pos rfl, if_pos (by omega)]
      exact hv
    · rw [if_neg (by omega)]
      rcases (ltW_set (by rw [h.sz]; exact hi)).1 hlt with e2 | h2
      · exact absurd e2.symm hji
      · exact (h.ph j hj h2).on e

def PostW (A : Array Value) (W : World) (b o n cap k : Nat) (p x y PV UV : Int) (NX : List Int) : Exit → Act → World → Prop
  | .normal, a, w => ∃ l, InvW A W b o n cap k p x y PV UV NX l a w ∧ ltW l 33
  | _, _, _ => False

set_option maxHeartbeats 4000000 in
theorem regionW (A : Array Value) (W : World) (b o n cap k : Nat) (p x y PV UV : Int) (NX : List Int) (hs : A.size = 60) (t0 : A[0]? = some (.slice (some ⟨b, o, none⟩) n cap)) (t5 : A[5]? = some (.int .i64 (k : Int))) (hlt : k < n) (hn : n ≤ 200)
    (q0 : W.cell? ⟨b, o + k * 3, none⟩ = some (.int .i64 p)) (q1 : W.cell? ⟨b, o + k * 3 + 1, none⟩ = some (.int .i64 x)) (q2 : W.cell? ⟨b, o + k * 3 + 2, none⟩ = some (.int .i64 y))
    (HP1 : Hd (∀ w : World, Calls Try.prog 10 #[kiV ⟨p, x, y⟩] w fun e w' => e = .returned (.int .i64 PV) ∧ Ext w w'))
    (HP2 : Hd (∀ w : World, Calls Try.prog 11 #[kiV ⟨p, x, y⟩] w fun e w' => e = .returned (.int .i64 PV) ∧ Ext w w'))
    (HU1 : Hd (∀ w : World, Calls Try.prog 12 #[kiV ⟨p, x, y⟩] w fun e w' => e = .returned (.int .i64 UV) ∧ Ext w w'))
    (HU2 : Hd (∀ w : World, Calls Try.prog 13 #[kiV ⟨p, x, y⟩] w fun e w' => e = .returned (.int .i64 UV) ∧ Ext w w'))
    (HN : Hd (∀ w : World, Ext W w → Calls Try.prog 15 #[.slice (some ⟨b, o, none⟩) n cap, .int .i64 (k : Int)] w fun e w' => ∃ yb yc, e = .returned (.slice yb NX.length yc) ∧ RepZ w' (In w') yb NX ∧ Ext w w'))
    (HM : Hd (∀ w : World, Ext W w → Calls Try.prog 16 #[.slice (some ⟨b, o, none⟩) n cap, .int .i64 (k : Int)] w fun e w' => ∃ yb yc, e = .returned (.slice yb NX.length yc) ∧ RepZ w' (In w') yb NX ∧ Ext w w'))
    (HS : Hd (∀ (w : World) (ya za : Option Addr) (yc zc : Nat), RepZ w (In w) ya NX → RepZ w (In w) za NX → Calls Try.prog 14 #[.slice ya NX.length yc, .slice za NX.length zc] w fun e w' => e = .returned (.bool true) ∧ Ext w w')) :
    Code.wp Try.prog ((Try.f4.body.bind (regionAtW 6)).getD .skip) (PostW A W b o n cap k p x y PV UV NX) ⟨A, []⟩ W := by
  conv => arg 2; whnf
  refine wp_region_any (by kernel_rfl) (wpAny_inv (InvW A W b o n cap k p x y PV UV NX) ?_ ?_ _ _ _ _ ?_ ?_)
  · intro l a w hI i hi
    have hr := hi
    unfold Region.ready at hr
    rw [List.mem_filter] at hr
    obtain ⟨hr1, hr2⟩ := hr
    have h34 : i < 34 := by simpa using hr1
    clear hr1 hi
    obtain ⟨T, d⟩ := a
    obtain rfl : d = [] := hI.d
    have hTs : T.size = 60 := hI.len
    have c0 := hI.ext.cell q0
    have c1 := hI.ext.cell q1
    have c2 := hI.ext.cell q2
    have u0 : T[0] = .slice (some ⟨b, o, none⟩) n cap := atW (T := T) (i := 0) ((hI.keep 0 (by omega)).trans t0) (by omega)
    have u5 : T[5] = .int .i64 (k : Int) := atW (T := T) (i := 5) ((hI.keep 5 (by omega)).trans t5) (by omega)
    rcases (show i = 0 ∨ i = 1 ∨ i = 2 ∨ i = 3 ∨ i = 4 ∨ i = 5 ∨ i = 6 ∨ i = 7 ∨ i = 8 ∨ i = 9 ∨ i = 10 ∨ i = 11 ∨ i = 12 ∨ i = 13 ∨ i = 14 ∨ i = 15 ∨ i = 16 ∨ i = 17 ∨ i = 18 ∨ i = 19 ∨ i = 20 ∨ i = 21 ∨ i = 22 ∨ i = 23 ∨ i = 24 ∨ i = 25 ∨ i = 26 ∨ i = 27 ∨ i = 28 ∨ i = 29 ∨ i = 30 ∨ i = 31 ∨ i = 32 ∨ i = 33 by omega) with rfl | rfl | rfl | rfl | rfl | rfl | rfl | rfl | rfl | rfl | rfl | rfl | rfl | rfl | rfl | rfl | rfl | rfl | rfl | rfl | rfl | rfl | rfl | rfl | rfl | rfl | rfl | rfl | rfl | rfl | rfl | rfl | rfl | rfl
    · simp [Region.binds] at hr2
      refine wpOp_want rfl (by simp [Region.wanted, yielded, hTs]) ?_
      go_simp
      exact hI.step 0 (by decide) _ (Ext.refl _) rfl
    · simp [Region.binds] at hr2
      refine wpOp_want rfl (by simp [Region.wanted, yielded, hTs]) ?_
      go_simp
      exact hI.step 1 (by decide) _ (Ext.refl _) rfl
    · simp [Region.binds] at hr2
      have u16 : T[16] = .slice (some ⟨b, o, none⟩) n cap := atW (T := T) (i := 16) (hI.ph 0 (by decide) (show ltW l 0 from (by first | exact hr2.2 | exact hr2.2.1 | exact hr2.2.2 | exact hr2.2.2.1 | exact hr2.2.2.2 | exact hr2.2.2.2.1 | exact hr2.2.2.2.2 | exact hr2.1.1 | exact hr2.1.2 | simp_all))) (by omega)
      have u17 : T[17] = .int .i64 (k : Int) := atW (T := T) (i := 17) (hI.ph 1 (by decide) (show ltW l 1 from (by first | exact hr2.2 | exact hr2.2.1 | exact hr2.2.2 | exact hr2.2.2.1 | exact hr2.2.2.2 | exact hr2.2.2.2.1 | exact hr2.2.2.2.2 | exact hr2.1.1 | exact hr2.1.2 | simp_all))) (by omega)
      refine wpOp_want rfl (by simp [Region.wanted, yielded, hTs]) ?_
      clear hr2
      go_simp
      exact hI.step 2 (by decide) _ (Ext.refl _) rfl
    · simp [Region.binds] at hr2
      have u18 : T[18] = .pointer (some ⟨b, o + k * 3, none⟩) := atW (T := T) (i := 18) (hI.ph 2 (by decide) (show ltW l 2 from (by first | exact hr2.2 | exact hr2.2.1 | exact hr2.2.2 | exact hr2.2.2.1 | exact hr2.2.2.2 | exact hr2.2.2.2.1 | exact hr2.2.2.2.2 | exact hr2.1.1 | exact hr2.1.2 | simp_all))) (by omega)
      refine wpOp_want rfl (by simp [Region.wanted, yielded, hTs]) ?_
      go_simp
      exact hI.step 3 (by decide) _ (Ext.refl _) rfl
    · simp [Region.binds] at hr2
      have u19 : T[19] = kiV ⟨p, x, y⟩ := atW (T := T) (i := 19) (hI.ph 3 (by decide) (show ltW l 3 from (by first | exact hr2.2 | exact hr2.2.1 | exact hr2.2.2 | exact hr2.2.2.1 | exact hr2.2.2.2 | exact hr2.2.2.2.1 | exact hr2.2.2.2.2 | exact hr2.1.1 | exact hr2.1.2 | simp_all))) (by omega)
      refine wpOp_want rfl (by simp [Region.wanted, yielded, hTs]) ?_
      refine wp_call_xs 10 #[.tmp 19] #[23] rfl #[kiV ⟨p, x, y⟩] (by simp [Act.eval, hTs, u19]) (enter1 _ _) (Calls.mono (unhide HP1 w) ?_)
      rintro e w1 ⟨rfl, hx⟩
      exact ⟨_, rfl, hI.step 4 (by decide) _ hx rfl⟩
    · simp [Region.binds] at hr2
      refine wpOp_want rfl (by simp [Region.wanted, yielded, hTs]) ?_
      go_simp
      exact hI.step 5 (by decide) _ (Ext.refl _) rfl
    · simp [Region.binds] at hr2
      refine wpOp_want rfl (by simp [Region.wanted, yielded, hTs]) ?_
      go_simp
      exact hI.step 6 (by decide) _ (Ext.refl _) rfl
    · simp [Region.binds] at hr2
      have u21 : T[21] = .slice (some ⟨b, o, none⟩) n cap := atW (T := T) (i := 21) (hI.ph 5 (by decide) (show ltW l 5 from (by first | exact hr2.2 | exact hr2.2.1 | exact hr2.2.2 | exact hr2.2.2.1 | exact hr2.2.2.2 | exact hr2.2.2.2.1 | exact hr2.2.2.2.2 | exact hr2.1.1 | exact hr2.1.2 | simp_all))) (by omega)
      have u22 : T[22] = .int .i64 (k : Int) := atW (T := T) (i := 22) (hI.ph 6 (by decide) (show ltW l 6 from (by first | exact hr2.2 | exact hr2.2.1 | exact hr2.2.2 | exact hr2.2.2.1 | exact hr2.2.2.2 | exact hr2.2.2.2.1 | exact hr2.2.2.2.2 | exact hr2.1.1 | exact hr2.1.2 | simp_all))) (by omega)
      refine wpOp_want rfl (by simp [Region.wanted, yielded, hTs]) ?_
      clear hr2
      go_simp
      exact hI.step 7 (by decide) _ (Ext.refl _) rfl
    · simp [Region.binds] at hr2
      have u23 : T[23] = .pointer (some ⟨b, o + k * 3, none⟩) := atW (T := T) (i := 23) (hI.ph 7 (by decide) (show ltW l 7 from (by first | exact hr2.2 | exact hr2.2.1 | exact hr2.2.2 | exact hr2.2.2.1 | exact hr2.2.2.2 | exact hr2.2.2.2.1 | exact hr2.2.2.2.2 | exact hr2.1.1 | exact hr2.1.2 | simp_all))) (by omega)
      refine wpOp_want rfl (by simp [Region.wanted, yielded, hTs]) ?_
      go_simp
      exact hI.step 8 (by decide) _ (Ext.refl _) rfl
    · simp [Region.binds] at hr2
      have u24 : T[24] = kiV ⟨p, x, y⟩ := atW (T := T) (i := 24) (hI.ph 8 (by decide) (show ltW l 8 from (by first | exact hr2.2 | exact hr2.2.1 | exact hr2.2.2 | exact hr2.2.2.1 | exact hr2.2.2.2 | exact hr2.2.2.2.1 | exact hr2.2.2.2.2 | exact hr2.1.1 | exact hr2.1.2 | simp_all))) (by omega)
      refine wpOp_want rfl (by simp [Region.wanted, yielded, hTs]) ?_
      refine wp_call_xs 11 #[.tmp 24] #[23] rfl #[kiV ⟨p, x, y⟩] (by simp [Act.eval, hTs, u24]) (enter2 _ _) (Calls.mono (unhide HP2 w) ?_)
      rintro e w1 ⟨rfl, hx⟩
      exact ⟨_, rfl, hI.step 9 (by decide) _ hx rfl⟩
    · simp [Region.binds] at hr2
      have u20 : T[20] = .int .i64 PV := atW (T := T) (i := 20) (hI.ph 4 (by decide) (show ltW l 4 from (by first | exact hr2.2 | exact hr2.2.1 | exact hr2.2.2 | exact hr2.2.2.1 | exact hr2.2.2.2 | exact hr2.2.2.2.1 | exact hr2.2.2.2.2 | exact hr2.1.1 | exact hr2.1.2 | simp_all))) (by omega)
      have u25 : T[25] = .int .i64 PV := atW (T := T) (i := 25) (hI.ph 9 (by decide) (show ltW l 9 from (by first | exact hr2.2 | exact hr2.2.1 | exact hr2.2.2 | exact hr2.2.2.1 | exact hr2.2.2.2 | exact hr2.2.2.2.1 | exact hr2.2.2.2.2 | exact hr2.1.1 | exact hr2.1.2 | simp_all))) (by omega)
      refine wpOp_want rfl (by simp [Region.wanted, yielded, hTs]) ?_
      go_simp
      exact hI.step 10 (by decide) _ (Ext.refl _) rfl
    · simp [Region.binds] at hr2
      have u26 : T[26] = .bool false := atW (T := T) (i := 26) (hI.ph 10 (by decide) (show ltW l 10 from (by first | exact hr2.2 | exact hr2.2.1 | exact hr2.2.2 | exact hr2.2.2.1 | exact hr2.2.2.2 | exact hr2.2.2.2.1 | exact hr2.2.2.2.2 | exact hr2.1.1 | exact hr2.1.2 | simp_all))) (by omega)
      refine wpOp_want rfl (by simp [Region.wanted, yielded, hTs]) ?_
      go_simp
      exact hI.step 11 (by decide) _ (Ext.refl _) rfl
    · simp [Region.binds] at hr2
      have u27 : T[27] = .bool false := atW (T := T) (i := 27) (hI.ph 11 (by decide) (show ltW l 11 from (by first | exact hr2.2 | exact hr2.2.1 | exact hr2.2.2 | exact hr2.2.2.1 | exact hr2.2.2.2 | exact hr2.2.2.2.1 | exact hr2.2.2.2.2 | exact hr2.1.1 | exact hr2.1.2 | simp_all))) (by omega)
      refine wpOp_want rfl (by simp [Region.wanted, yielded, hTs, u27]) ?_
      go_simp
      exact hI.step 12 (by decide) _ (Ext.refl _) rfl
    · simp [Region.binds] at hr2
      have u27 : T[27] = .bool false := atW (T := T) (i := 27) (hI.ph 11 (by decide) (show ltW l 11 from (by first | exact hr2.2 | exact hr2.2.1 | exact hr2.2.2 | exact hr2.2.2.1 | exact hr2.2.2.2 | exact hr2.2.2.2.1 | exact hr2.2.2.2.2 | exact hr2.1.1 | exact hr2.1.2 | simp_all))) (by omega)
      refine wpOp_want rfl (by simp [Region.wanted, yielded, hTs, u27]) ?_
      go_simp
      exact hI.step 13 (by decide) _ (Ext.refl _) rfl
    · simp [Region.binds] at hr2
      have u28 : T[28] = .slice (some ⟨b, o, none⟩) n cap := atW (T := T) (i := 28) (hI.ph 12 (by decide) (show ltW l 12 from (by first | exact hr2.2 | exact hr2.2.1 | exact hr2.2.2 | exact hr2.2.2.1 | exact hr2.2.2.2 | exact hr2.2.2.2.1 | exact hr2.2.2.2.2 | exact hr2.1.1 | exact hr2.1.2 | simp_all))) (by omega)
      have u29 : T[29] = .int .i64 (k : Int) := atW (T := T) (i := 29) (hI.ph 13 (by decide) (show ltW l 13 from (by first | exact hr2.2 | exact hr2.2.1 | exact hr2.2.2 | exact hr2.2.2.1 | exact hr2.2.2.2 | exact hr2.2.2.2.1 | exact hr2.2.2.2.2 | exact hr2.1.1 | exact hr2.1.2 | simp_all))) (by omega)
      have u27 : T[27] = .bool false := atW (T := T) (i := 27) (hI.ph 11 (by decide) (show ltW l 11 from (by first | exact hr2.2 | exact hr2.2.1 | exact hr2.2.2 | exact hr2.2.2.1 | exact hr2.2.2.2 | exact hr2.2.2.2.1 | exact hr2.2.2.2.2 | exact hr2.1.1 | exact hr2.1.2 | simp_all))) (by omega)
      refine wpOp_want rfl (by simp [Region.wanted, yielded, hTs, u27]) ?_
      clear hr2
      go_simp
      exact hI.step 14 (by decide) _ (Ext.refl _) rfl
    · simp [Region.binds] at hr2
      have u30 : T[30] = .pointer (some ⟨b, o + k * 3, none⟩) := atW (T := T) (i := 30) (hI.ph 14 (by decide) (show ltW l 14 from (by first | exact hr2.2 | exact hr2.2.1 | exact hr2.2.2 | exact hr2.2.2.1 | exact hr2.2.2.2 | exact hr2.2.2.2.1 | exact hr2.2.2.2.2 | exact hr2.1.1 | exact hr2.1.2 | simp_all))) (by omega)
      have u27 : T[27] = .bool false := atW (T := T) (i := 27) (hI.ph 11 (by decide) (show ltW l 11 from (by first | exact hr2.2 | exact hr2.2.1 | exact hr2.2.2 | exact hr2.2.2.1 | exact hr2.2.2.2 | exact hr2.2.2.2.1 | exact hr2.2.2.2.2 | exact hr2.1.1 | exact hr2.1.2 | simp_all))) (by omega)
      refine wpOp_want rfl (by simp [Region.wanted, yielded, hTs, u27]) ?_
      go_simp
      exact hI.step 15 (by decide) _ (Ext.refl _) rfl
    · simp [Region.binds] at hr2
      have u31 : T[31] = kiV ⟨p, x, y⟩ := atW (T := T) (i := 31) (hI.ph 15 (by decide) (show ltW l 15 from (by first | exact hr2.2 | exact hr2.2.1 | exact hr2.2.2 | exact hr2.2.2.1 | exact hr2.2.2.2 | exact hr2.2.2.2.1 | exact hr2.2.2.2.2 | exact hr2.1.1 | exact hr2.1.2 | simp_all))) (by omega)
      have u27 : T[27] = .bool false := atW (T := T) (i := 27) (hI.ph 11 (by decide) (show ltW l 11 from (by first | exact hr2.2 | exact hr2.2.1 | exact hr2.2.2 | exact hr2.2.2.1 | exact hr2.2.2.2 | exact hr2.2.2.2.1 | exact hr2.2.2.2.2 | exact hr2.1.1 | exact hr2.1.2 | simp_all))) (by omega)
      refine wpOp_want rfl (by simp [Region.wanted, yielded, hTs, u27]) ?_
      refine wp_call_xs 12 #[.tmp 31] #[23] rfl #[kiV ⟨p, x, y⟩] (by simp [Act.eval, hTs, u31]) (enter3 _ _) (Calls.mono (unhide HU1 w) ?_)
      rintro e w1 ⟨rfl, hx⟩
      exact ⟨_, rfl, hI.step 16 (by decide) _ hx rfl⟩
    · simp [Region.binds] at hr2
      have u27 : T[27] = .bool false := atW (T := T) (i := 27) (hI.ph 11 (by decide) (show ltW l 11 from (by first | exact hr2.2 | exact hr2.2.1 | exact hr2.2.2 | exact hr2.2.2.1 | exact hr2.2.2.2 | exact hr2.2.2.2.1 | exact hr2.2.2.2.2 | exact hr2.1.1 | exact hr2.1.2 | simp_all))) (by omega)
      refine wpOp_want rfl (by simp [Region.wanted, yielded, hTs, u27]) ?_
      go_simp
      exact hI.step 17 (by decide) _ (Ext.refl _) rfl
    · simp [Region.binds] at hr2
      have u27 : T[27] = .bool false := atW (T := T) (i := 27) (hI.ph 11 (by decide) (show ltW l 11 from (by first | exact hr2.2 | exact hr2.2.1 | exact hr2.2.2 | exact hr2.2.2.1 | exact hr2.2.2.2 | exact hr2.2.2.2.1 | exact hr2.2.2.2.2 | exact hr2.1.1 | exact hr2.1.2 | simp_all))) (by omega)
      refine wpOp_want rfl (by simp [Region.wanted, yielded, hTs, u27]) ?_
      go_simp
      exact hI.step 18 (by decide) _ (Ext.refl _) rfl
    · simp [Region.binds] at hr2
      have u33 : T[33] = .slice (some ⟨b, o, none⟩) n cap := atW (T := T) (i := 33) (hI.ph 17 (by decide) (show ltW l 17 from (by first | exact hr2.2 | exact hr2.2.1 | exact hr2.2.2 | exact hr2.2.2.1 | exact hr2.2.2.2 | exact hr2.2.2.2.1 | exact hr2.2.2.2.2 | exact hr2.1.1 | exact hr2.1.2 | simp_all))) (by omega)
      have u34 : T[34] = .int .i64 (k : Int) := atW (T := T) (i := 34) (hI.ph 18 (by decide) (show ltW l 18 from (by first | exact hr2.2 | exact hr2.2.1 | exact hr2.2.2 | exact hr2.2.2.1 | exact hr2.2.2.2 | exact hr2.2.2.2.1 | exact hr2.2.2.2.2 | exact hr2.1.1 | exact hr2.1.2 | simp_all))) (by omega)
      have u27 : T[27] = .bool false := atW (T := T) (i := 27) (hI.ph 11 (by decide) (show ltW l 11 from (by first | exact hr2.2 | exact hr2.2.1 | exact hr2.2.2 | exact hr2.2.2.1 | exact hr2.2.2.2 | exact hr2.2.2.2.1 | exact hr2.2.2.2.2 | exact hr2.1.1 | exact hr2.1.2 | simp_all))) (by omega)
      refine wpOp_want rfl (by simp [Region.wanted, yielded, hTs, u27]) ?_
      clear hr2
      go_simp
      exact hI.step 19 (by decide) _ (Ext.refl _) rfl
    · simp [Region.binds] at hr2
      have u35 : T[35] = .pointer (some ⟨b, o + k * 3, none⟩) := atW (T := T) (i := 35) (hI.ph 19 (by decide) (show ltW l 19 from (by first | exact hr2.2 | exact hr2.2.1 | exact hr2.2.2 | exact hr2.2.2.1 | exact hr2.2.2.2 | exact hr2.2.2.2.1 | exact hr2.2.2.2.2 | exact hr2.1.1 | exact hr2.1.2 | simp_all))) (by omega)
      have u27 : T[27] = .bool false := atW (T := T) (i := 27) (hI.ph 11 (by decide) (show ltW l 11 from (by first | exact hr2.2 | exact hr2.2.1 | exact hr2.2.2 | exact hr2.2.2.1 | exact hr2.2.2.2 | exact hr2.2.2.2.1 | exact hr2.2.2.2.2 | exact hr2.1.1 | exact hr2.1.2 | simp_all))) (by omega)
      refine wpOp_want rfl (by simp [Region.wanted, yielded, hTs, u27]) ?_
      go_simp
      exact hI.step 20 (by decide) _ (Ext.refl _) rfl
    · simp [Region.binds] at hr2
      have u36 : T[36] = kiV ⟨p, x, y⟩ := atW (T := T) (i := 36) (hI.ph 20 (by decide) (show ltW l 20 from (by first | exact hr2.2 | exact hr2.2.1 | exact hr2.2.2 | exact hr2.2.2.1 | exact hr2.2.2.2 | exact hr2.2.2.2.1 | exact hr2.2.2.2.2 | exact hr2.1.1 | exact hr2.1.2 | simp_all))) (by omega)
      have u27 : T[27] = .bool false := atW (T := T) (i := 27) (hI.ph 11 (by decide) (show ltW l 11 from (by first | exact hr2.2 | exact hr2.2.1 | exact hr2.2.2 | exact hr2.2.2.1 | exact hr2.2.2.2 | exact hr2.2.2.2.1 | exact hr2.2.2.2.2 | exact hr2.1.1 | exact hr2.1.2 | simp_all))) (by omega)
      refine wpOp_want rfl (by simp [Region.wanted, yielded, hTs, u27]) ?_
      refine wp_call_xs 13 #[.tmp 36] #[23] rfl #[kiV ⟨p, x, y⟩] (by simp [Act.eval, hTs, u36]) (enter4 _ _) (Calls.mono (unhide HU2 w) ?_)
      rintro e w1 ⟨rfl, hx⟩
      exact ⟨_, rfl, hI.step 21 (by decide) _ hx rfl⟩
    · simp [Region.binds] at hr2
      have u32 : T[32] = .int .i64 UV := atW (T := T) (i := 32) (hI.ph 16 (by decide) (show ltW l 16 from (by first | exact hr2.2 | exact hr2.2.1 | exact hr2.2.2 | exact hr2.2.2.1 | exact hr2.2.2.2 | exact hr2.2.2.2.1 | exact hr2.2.2.2.2 | exact hr2.1.1 | exact hr2.1.2 | simp_all))) (by omega)
      have u37 : T[37] = .int .i64 UV := atW (T := T) (i := 37) (hI.ph 21 (by decide) (show ltW l 21 from (by first | exact hr2.2 | exact hr2.2.1 | exact hr2.2.2 | exact hr2.2.2.1 | exact hr2.2.2.2 | exact hr2.2.2.2.1 | exact hr2.2.2.2.2 | exact hr2.1.1 | exact hr2.1.2 | simp_all))) (by omega)
      have u27 : T[27] = .bool false := atW (T := T) (i := 27) (hI.ph 11 (by decide) (show ltW l 11 from (by first | exact hr2.2 | exact hr2.2.1 | exact hr2.2.2 | exact hr2.2.2.1 | exact hr2.2.2.2 | exact hr2.2.2.2.1 | exact hr2.2.2.2.2 | exact hr2.1.1 | exact hr2.1.2 | simp_all))) (by omega)
      refine wpOp_want rfl (by simp [Region.wanted, yielded, hTs, u27]) ?_
      go_simp
      exact hI.step 22 (by decide) _ (Ext.refl _) rfl
    · simp [Region.binds] at hr2
      have u27 : T[27] = .bool false := atW (T := T) (i := 27) (hI.ph 11 (by decide) (show ltW l 11 from (by first | exact hr2.2 | exact hr2.2.1 | exact hr2.2.2 | exact hr2.2.2.1 | exact hr2.2.2.2 | exact hr2.2.2.2.1 | exact hr2.2.2.2.2 | exact hr2.1.1 | exact hr2.1.2 | simp_all))) (by omega)
      have u38 : T[38] = .bool false := atW (T := T) (i := 38) (hI.ph 22 (by decide) (show ltW l 22 from (by first | exact hr2.2 | exact hr2.2.1 | exact hr2.2.2 | exact hr2.2.2.1 | exact hr2.2.2.2 | exact hr2.2.2.2.1 | exact hr2.2.2.2.2 | exact hr2.1.1 | exact hr2.1.2 | simp_all))) (by omega)
      refine wpOp_want rfl (by simp [Region.wanted, yielded, hTs]) ?_
      go_simp
      exact hI.step 23 (by decide) _ (Ext.refl _) rfl
    · simp [Region.binds] at hr2
      have u39 : T[39] = .bool false := atW (T := T) (i := 39) (hI.ph 23 (by decide) (show ltW l 23 from (by first | exact hr2.2 | exact hr2.2.1 | exact hr2.2.2 | exact hr2.2.2.1 | exact hr2.2.2.2 | exact hr2.2.2.2.1 | exact hr2.2.2.2.2 | exact hr2.1.1 | exact hr2.1.2 | simp_all))) (by omega)
      refine wpOp_want rfl (by simp [Region.wanted, yielded, hTs]) ?_
      go_simp
      exact hI.step 24 (by decide) _ (Ext.refl _) rfl
    · simp [Region.binds] at hr2
      have u40 : T[40] = .bool false := atW (T := T) (i := 40) (hI.ph 24 (by decide) (show ltW l 24 from (by first | exact hr2.2 | exact hr2.2.1 | exact hr2.2.2 | exact hr2.2.2.1 | exact hr2.2.2.2 | exact hr2.2.2.2.1 | exact hr2.2.2.2.2 | exact hr2.1.1 | exact hr2.1.2 | simp_all))) (by omega)
      refine wpOp_want rfl (by simp [Region.wanted, yielded, hTs, u40]) ?_
      go_simp
      exact hI.step 25 (by decide) _ (Ext.refl _) rfl
    · simp [Region.binds] at hr2
      have u40 : T[40] = .bool false := atW (T := T) (i := 40) (hI.ph 24 (by decide) (show ltW l 24 from (by first | exact hr2.2 | exact hr2.2.1 | exact hr2.2.2 | exact hr2.2.2.1 | exact hr2.2.2.2 | exact hr2.2.2.2.1 | exact hr2.2.2.2.2 | exact hr2.1.1 | exact hr2.1.2 | simp_all))) (by omega)
      refine wpOp_want rfl (by simp [Region.wanted, yielded, hTs, u40]) ?_
      go_simp
      exact hI.step 26 (by decide) _ (Ext.refl _) rfl
    · simp [Region.binds] at hr2
      have u41 : T[41] = .slice (some ⟨b, o, none⟩) n cap := atW (T := T) (i := 41) (hI.ph 25 (by decide) (show ltW l 25 from (by first | exact hr2.2 | exact hr2.2.1 | exact hr2.2.2 | exact hr2.2.2.1 | exact hr2.2.2.2 | exact hr2.2.2.2.1 | exact hr2.2.2.2.2 | exact hr2.1.1 | exact hr2.1.2 | simp_all))) (by omega)
      have u42 : T[42] = .int .i64 (k : Int) := atW (T := T) (i := 42) (hI.ph 26 (by decide) (show ltW l 26 from (by first | exact hr2.2 | exact hr2.2.1 | exact hr2.2.2 | exact hr2.2.2.1 | exact hr2.2.2.2 | exact hr2.2.2.2.1 | exact hr2.2.2.2.2 | exact hr2.1.1 | exact hr2.1.2 | simp_all))) (by omega)
      have u40 : T[40] = .bool false := atW (T := T) (i := 40) (hI.ph 24 (by decide) (show ltW l 24 from (by first | exact hr2.2 | exact hr2.2.1 | exact hr2.2.2 | exact hr2.2.2.1 | exact hr2.2.2.2 | exact hr2.2.2.2.1 | exact hr2.2.2.2.2 | exact hr2.1.1 | exact hr2.1.2 | simp_all))) (by omega)
      refine wpOp_want rfl (by simp [Region.wanted, yielded, hTs, u40]) ?_
      refine wp_call_xs 15 #[.tmp 41, .tmp 42] #[24, 3] rfl #[.slice (some ⟨b, o, none⟩) n cap, .int .i64 (k : Int)] (by simp [Act.eval, hTs, u41, u42]) (enter5 _ _ _) (Calls.mono (unhide HN w hI.ext) ?_)
      rintro e w1 ⟨vb, vc, rfl, hz, hx⟩
      exact ⟨_, rfl, hI.step 27 (by decide) _ hx ⟨vb, vc, rfl, hz⟩⟩
    · simp [Region.binds] at hr2
      have u40 : T[40] = .bool false := atW (T := T) (i := 40) (hI.ph 24 (by decide) (show ltW l 24 from (by first | exact hr2.2 | exact hr2.2.1 | exact hr2.2.2 | exact hr2.2.2.1 | exact hr2.2.2.2 | exact hr2.2.2.2.1 | exact hr2.2.2.2.2 | exact hr2.1.1 | exact hr2.1.2 | simp_all))) (by omega)
      refine wpOp_want rfl (by simp [Region.wanted, yielded, hTs, u40]) ?_
      go_simp
      exact hI.step 28 (by decide) _ (Ext.refl _) rfl
    · simp [Region.binds] at hr2
      have u40 : T[40] = .bool false := atW (T := T) (i := 40) (hI.ph 24 (by decide) (show ltW l 24 from (by first | exact hr2.2 | exact hr2.2.1 | exact hr2.2.2 | exact hr2.2.2.1 | exact hr2.2.2.2 | exact hr2.2.2.2.1 | exact hr2.2.2.2.2 | exact hr2.1.1 | exact hr2.1.2 | simp_all))) (by omega)
      refine wpOp_want rfl (by simp [Region.wanted, yielded, hTs, u40]) ?_
      go_simp
      exact hI.step 29 (by decide) _ (Ext.refl _) rfl
    · simp [Region.binds] at hr2
      have u44 : T[44] = .slice (some ⟨b, o, none⟩) n cap := atW (T := T) (i := 44) (hI.ph 28 (by decide) (show ltW l 28 from (by first | exact hr2.2 | exact hr2.2.1 | exact hr2.2.2 | exact hr2.2.2.1 | exact hr2.2.2.2 | exact hr2.2.2.2.1 | exact hr2.2.2.2.2 | exact hr2.1.1 | exact hr2.1.2 | simp_all))) (by omega)
      have u45 : T[45] = .int .i64 (k : Int) := atW (T := T) (i := 45) (hI.ph 29 (by decide) (show ltW l 29 from (by first | exact hr2.2 | exact hr2.2.1 | exact hr2.2.2 | exact hr2.2.2.1 | exact hr2.2.2.2 | exact hr2.2.2.2.1 | exact hr2.2.2.2.2 | exact hr2.1.1 | exact hr2.1.2 | simp_all))) (by omega)
      have u40 : T[40] = .bool false := atW (T := T) (i := 40) (hI.ph 24 (by decide) (show ltW l 24 from (by first | exact hr2.2 | exact hr2.2.1 | exact hr2.2.2 | exact hr2.2.2.1 | exact hr2.2.2.2 | exact hr2.2.2.2.1 | exact hr2.2.2.2.2 | exact hr2.1.1 | exact hr2.1.2 | simp_all))) (by omega)
      refine wpOp_want rfl (by simp [Region.wanted, yielded, hTs, u40]) ?_
      refine wp_call_xs 16 #[.tmp 44, .tmp 45] #[24, 3] rfl #[.slice (some ⟨b, o, none⟩) n cap, .int .i64 (k : Int)] (by simp [Act.eval, hTs, u44, u45]) (enter6 _ _ _) (Calls.mono (unhide HM w hI.ext) ?_)
      rintro e w1 ⟨vb, vc, rfl, hz, hx⟩
      exact ⟨_, rfl, hI.step 30 (by decide) _ hx ⟨vb, vc, rfl, hz⟩⟩
    · simp [Region.binds] at hr2
      obtain ⟨yb, yc, e27, r27⟩ := hI.ph 27 (by decide) (show ltW l 27 from (by first | exact hr2.2 | exact hr2.2.1 | exact hr2.2.2 | exact hr2.2.2.1 | exact hr2.2.2.2 | exact hr2.2.2.2.1 | exact hr2.2.2.2.2 | exact hr2.1.1 | exact hr2.1.2 | simp_all))
      have u43 : T[43] = .slice yb NX.length yc := atW (T := T) (i := 43) e27 (by omega)
      obtain ⟨zb, zc, e30, r30⟩ := hI.ph 30 (by decide) (show ltW l 30 from (by first | exact hr2.2 | exact hr2.2.1 | exact hr2.2.2 | exact hr2.2.2.1 | exact hr2.2.2.2 | exact hr2.2.2.2.1 | exact hr2.2.2.2.2 | exact hr2.1.1 | exact hr2.1.2 | simp_all))
      have u46 : T[46] = .slice zb NX.length zc := atW (T := T) (i := 46) e30 (by omega)
      have u40 : T[40] = .bool false := atW (T := T) (i := 40) (hI.ph 24 (by decide) (show ltW l 24 from (by first | exact hr2.2 | exact hr2.2.1 | exact hr2.2.2 | exact hr2.2.2.1 | exact hr2.2.2.2 | exact hr2.2.2.2.1 | exact hr2.2.2.2.2 | exact hr2.1.1 | exact hr2.1.2 | simp_all))) (by omega)
      refine wpOp_want rfl (by simp [Region.wanted, yielded, hTs, u40]) ?_
      refine wp_call_xs 14 #[.tmp 43, .tmp 46] #[42, 42] rfl #[.slice yb NX.length yc, .slice zb NX.length zc] (by simp [Act.eval, hTs, u43, u46]) (enter7 _ _ _) (Calls.mono (unhide HS w yb zb yc zc r27 r30) ?_)
      rintro e w1 ⟨rfl, hx⟩
      exact ⟨_, rfl, hI.step 31 (by decide) _ hx rfl⟩
    · simp [Region.binds] at hr2
      have u47 : T[47] = .bool true := atW (T := T) (i := 47) (hI.ph 31 (by decide) (show ltW l 31 from (by first | exact hr2.2 | exact hr2.2.1 | exact hr2.2.2 | exact hr2.2.2.1 | exact hr2.2.2.2 | exact hr2.2.2.2.1 | exact hr2.2.2.2.2 | exact hr2.1.1 | exact hr2.1.2 | simp_all))) (by omega)
      have u40 : T[40] = .bool false := atW (T := T) (i := 40) (hI.ph 24 (by decide) (show ltW l 24 from (by first | exact hr2.2 | exact hr2.2.1 | exact hr2.2.2 | exact hr2.2.2.1 | exact hr2.2.2.2 | exact hr2.2.2.2.1 | exact hr2.2.2.2.2 | exact hr2.1.1 | exact hr2.1.2 | simp_all))) (by omega)
      refine wpOp_want rfl (by simp [Region.wanted, yielded, hTs, u40]) ?_
      go_simp
      exact hI.step 32 (by decide) _ (Ext.refl _) rfl
    · simp [Region.binds] at hr2
      have u40 : T[40] = .bool false := atW (T := T) (i := 40) (hI.ph 24 (by decide) (show ltW l 24 from (by first | exact hr2.2 | exact hr2.2.1 | exact hr2.2.2 | exact hr2.2.2.1 | exact hr2.2.2.2 | exact hr2.2.2.2.1 | exact hr2.2.2.2.2 | exact hr2.1.1 | exact hr2.1.2 | simp_all))) (by omega)
      have u48 : T[48] = .bool false := atW (T := T) (i := 48) (hI.ph 32 (by decide) (show ltW l 32 from (by first | exact hr2.2 | exact hr2.2.1 | exact hr2.2.2 | exact hr2.2.2.1 | exact hr2.2.2.2 | exact hr2.2.2.2.1 | exact hr2.2.2.2.2 | exact hr2.1.1 | exact hr2.1.2 | simp_all))) (by omega)
      refine wpOp_want rfl (by simp [Region.wanted, yielded, hTs]) ?_
      go_simp
      exact hI.step 33 (by decide) _ (Ext.refl _) rfl
  · intro l a w hI hz
    have up : ∀ i, i < 34 → (ltW l i → False) → l[i]?.getD true = false := fun i hi hc => by
      have hil : i < l.size := by rw [hI.sz]; exact hi
      have e : l[i]? = some l[i] := Array.getElem?_eq_getElem hil
      rw [e]
      cases hb : l[i] with
      | false => rfl
      | true => exact absurd (by unfold ltW; rw [e, hb]; rfl) hc
    have r0 : l[0]?.getD false = true := Classical.byContradiction fun hc => by
      have hb := up 0 (by decide) hc
      refine absurd (?_ : 0 ∈ Region.ready _ _ l) (by rw [hz]; simp)
      unfold Region.ready
      rw [List.mem_filter]
      exact ⟨by simp, by simp [Region.binds, hb]⟩
    have r1 : l[1]?.getD false = true := Classical.byContradiction fun hc => by
      have hb := up 1 (by decide) hc
      refine absurd (?_ : 1 ∈ Region.ready _ _ l) (by rw [hz]; simp)
      unfold Region.ready
      rw [List.mem_filter]
      exact ⟨by simp, by simp [Region.binds, hb, r0]⟩
    have r2 : l[2]?.getD false = true := Classical.byContradiction fun hc => by
      have hb := up 2 (by decide) hc
      refine absurd (?_ : 2 ∈ Region.ready _ _ l) (by rw [hz]; simp)
      unfold Region.ready
      rw [List.mem_filter]
      exact ⟨by simp, by simp [Region.binds, hb, r0, r1]⟩
    have r3 : l[3]?.getD false = true := Classical.byContradiction fun hc => by
      have hb := up 3 (by decide) hc
      refine absurd (?_ : 3 ∈ Region.ready _ _ l) (by rw [hz]; simp)
      unfold Region.ready
      rw [List.mem_filter]
      exact ⟨by simp, by simp [Region.binds, hb, r0, r1, r2]⟩
    have r4 : l[4]?.getD false = true := Classical.byContradiction fun hc => by
      have hb := up 4 (by decide) hc
      refine absurd (?_ : 4 ∈ Region.ready _ _ l) (by rw [hz]; simp)
      unfold Region.ready
      rw [List.mem_filter]
      exact ⟨by simp, by simp [Region.binds, hb, r0, r1, r2, r3]⟩
    have r5 : l[5]?.getD false = true := Classical.byContradiction fun hc => by
      have hb := up 5 (by decide) hc
      refine absurd (?_ : 5 ∈ Region.ready _ _ l) (by rw [hz]; simp)
      unfold Region.ready
      rw [List.mem_filter]
      exact ⟨by simp, by simp [Region.binds, hb, r0, r1, r2, r3, r4]⟩
    have r6 : l[6]?.getD false = true := Classical.byContradiction fun hc => by
      have hb := up 6 (by decide) hc
      refine absurd (?_ : 6 ∈ Region.ready _ _ l) (by rw [hz]; simp)
      unfold Region.ready
      rw [List.mem_filter]
      exact ⟨by simp, by simp [Region.binds, hb, r0, r1, r2, r3, r4, r5]⟩
    have r7 : l[7]?.getD false = true := Classical.byContradiction fun hc => by
      have hb := up 7 (by decide) hc
      refine absurd (?_ : 7 ∈ Region.ready _ _ l) (by rw [hz]; simp)
      unfold Region.ready
      rw [List.mem_filter]
      exact ⟨by simp, by simp [Region.binds, hb, r0, r1, r2, r3, r4, r5, r6]⟩
    have r8 : l[8]?.getD false = true := Classical.byContradiction fun hc => by
      have hb := up 8 (by decide) hc
      refine absurd (?_ : 8 ∈ Region.ready _ _ l) (by rw [hz]; simp)
      unfold Region.ready
      rw [List.mem_filter]
      exact ⟨by simp, by simp [Region.binds, hb, r0, r1, r2, r3, r4, r5, r6, r7]⟩
    have r9 : l[9]?.getD false = true := Classical.byContradiction fun hc => by
      have hb := up 9 (by decide) hc
      refine absurd (?_ : 9 ∈ Region.ready _ _ l) (by rw [hz]; simp)
      unfold Region.ready
      rw [List.mem_filter]
      exact ⟨by simp, by simp [Region.binds, hb, r0, r1, r2, r3, r4, r5, r6, r7, r8]⟩
    have r10 : l[10]?.getD false = true := Classical.byContradiction fun hc => by
      have hb := up 10 (by decide) hc
      refine absurd (?_ : 10 ∈ Region.ready _ _ l) (by rw [hz]; simp)
      unfold Region.ready
      rw [List.mem_filter]
      exact ⟨by simp, by simp [Region.binds, hb, r0, r1, r2, r3, r4, r5, r6, r7, r8, r9]⟩
    have r11 : l[11]?.getD false = true := Classical.byContradiction fun hc => by
      have hb := up 11 (by decide) hc
      refine absurd (?_ : 11 ∈ Region.ready _ _ l) (by rw [hz]; simp)
      unfold Region.ready
      rw [List.mem_filter]
      exact ⟨by simp, by simp [Region.binds, hb, r0, r1, r2, r3, r4, r5, r6, r7, r8, r9, r10]⟩
    have r12 : l[12]?.getD false = true := Classical.byContradiction fun hc => by
      have hb := up 12 (by decide) hc
      refine absurd (?_ : 12 ∈ Region.ready _ _ l) (by rw [hz]; simp)
      unfold Region.ready
      rw [List.mem_filter]
      exact ⟨by simp, by simp [Region.binds, hb, r0, r1, r2, r3, r4, r5, r6, r7, r8, r9, r10, r11]⟩
    have r13 : l[13]?.getD false = true := Classical.byContradiction fun hc => by
      have hb := up 13 (by decide) hc
      refine absurd (?_ : 13 ∈ Region.ready _ _ l) (by rw [hz]; simp)
      unfold Region.ready
      rw [List.mem_filter]
      exact ⟨by simp, by simp [Region.binds, hb, r0, r1, r2, r3, r4, r5, r6, r7, r8, r9, r10, r11, r12]⟩
    have r14 : l[14]?.getD false = true := Classical.byContradiction fun hc => by
      have hb := up 14 (by decide) hc
      refine absurd (?_ : 14 ∈ Region.ready _ _ l) (by rw [hz]; simp)
      unfold Region.ready
      rw [List.mem_filter]
      exact ⟨by simp, by simp [Region.binds, hb, r0, r1, r2, r3, r4, r5, r6, r7, r8, r9, r10, r11, r12, r13]⟩
    have r15 : l[15]?.getD false = true := Classical.byContradiction fun hc => by
      have hb := up 15 (by decide) hc
      refine absurd (?_ : 15 ∈ Region.ready _ _ l) (by rw [hz]; simp)
      unfold Region.ready
      rw [List.mem_filter]
      exact ⟨by simp, by simp [Region.binds, hb, r0, r1, r2, r3, r4, r5, r6, r7, r8, r9, r10, r11, r12, r13, r14]⟩
    have r16 : l[16]?.getD false = true := Classical.byContradiction fun hc => by
      have hb := up 16 (by decide) hc
      refine absurd (?_ : 16 ∈ Region.ready _ _ l) (by rw [hz]; simp)
      unfold Region.ready
      rw [List.mem_filter]
      exact ⟨by simp, by simp [Region.binds, hb, r0, r1, r2, r3, r4, r5, r6, r7, r8, r9, r10, r11, r12, r13, r14, r15]⟩
    have r17 : l[17]?.getD false = true := Classical.byContradiction fun hc => by
      have hb := up 17 (by decide) hc
      refine absurd (?_ : 17 ∈ Region.ready _ _ l) (by rw [hz]; simp)
      unfold Region.ready
      rw [List.mem_filter]
      exact ⟨by simp, by simp [Region.binds, hb, r0, r1, r2, r3, r4, r5, r6, r7, r8, r9, r10, r11, r12, r13, r14, r15, r16]⟩
    have r18 : l[18]?.getD false = true := Classical.byContradiction fun hc => by
      have hb := up 18 (by decide) hc
      refine absurd (?_ : 18 ∈ Region.ready _ _ l) (by rw [hz]; simp)
      unfold Region.ready
      rw [List.mem_filter]
      exact ⟨by simp, by simp [Region.binds, hb, r0, r1, r2, r3, r4, r5, r6, r7, r8, r9, r10, r11, r12, r13, r14, r15, r16, r17]⟩
    have r19 : l[19]?.getD false = true := Classical.byContradiction fun hc => by
      have hb := up 19 (by decide) hc
      refine absurd (?_ : 19 ∈ Region.ready _ _ l) (by rw [hz]; simp)
      unfold Region.ready
      rw [List.mem_filter]
      exact ⟨by simp, by simp [Region.binds, hb, r0, r1, r2, r3, r4, r5, r6, r7, r8, r9, r10, r11, r12, r13, r14, r15, r16, r17, r18]⟩
    have r20 : l[20]?.getD false = true := Classical.byContradiction fun hc => by
      have hb := up 20 (by decide) hc
      refine absurd (?_ : 20 ∈ Region.ready _ _ l) (by rw [hz]; simp)
      unfold Region.ready
      rw [List.mem_filter]
      exact ⟨by simp, by simp [Region.binds, hb, r0, r1, r2, r3, r4, r5, r6, r7, r8, r9, r10, r11, r12, r13, r14, r15, r16, r17, r18, r19]⟩
    have r21 : l[21]?.getD false = true := Classical.byContradiction fun hc => by
      have hb := up 21 (by decide) hc
      refine absurd (?_ : 21 ∈ Region.ready _ _ l) (by rw [hz]; simp)
      unfold Region.ready
      rw [List.mem_filter]
      exact ⟨by simp, by simp [Region.binds, hb, r0, r1, r2, r3, r4, r5, r6, r7, r8, r9, r10, r11, r12, r13, r14, r15, r16, r17, r18, r19, r20]⟩
    have r22 : l[22]?.getD false = true := Classical.byContradiction fun hc => by
      have hb := up 22 (by decide) hc
      refine absurd (?_ : 22 ∈ Region.ready _ _ l) (by rw [hz]; simp)
      unfold Region.ready
      rw [List.mem_filter]
      exact ⟨by simp, by simp [Region.binds, hb, r0, r1, r2, r3, r4, r5, r6, r7, r8, r9, r10, r11, r12, r13, r14, r15, r16, r17, r18, r19, r20, r21]⟩
    have r23 : l[23]?.getD false = true := Classical.byContradiction fun hc => by
      have hb := up 23 (by decide) hc
      refine absurd (?_ : 23 ∈ Region.ready _ _ l) (by rw [hz]; simp)
      unfold Region.ready
      rw [List.mem_filter]
      exact ⟨by simp, by simp [Region.binds, hb, r0, r1, r2, r3, r4, r5, r6, r7, r8, r9, r10, r11, r12, r13, r14, r15, r16, r17, r18, r19, r20, r21, r22]⟩
    have r24 : l[24]?.getD false = true := Classical.byContradiction fun hc => by
      have hb := up 24 (by decide) hc
      refine absurd (?_ : 24 ∈ Region.ready _ _ l) (by rw [hz]; simp)
      unfold Region.ready
      rw [List.mem_filter]
      exact ⟨by simp, by simp [Region.binds, hb, r0, r1, r2, r3, r4, r5, r6, r7, r8, r9, r10, r11, r12, r13, r14, r15, r16, r17, r18, r19, r20, r21, r22, r23]⟩
    have r25 : l[25]?.getD false = true := Classical.byContradiction fun hc => by
      have hb := up 25 (by decide) hc
      refine absurd (?_ : 25 ∈ Region.ready _ _ l) (by rw [hz]; simp)
      unfold Region.ready
      rw [List.mem_filter]
      exact ⟨by simp, by simp [Region.binds, hb, r0, r1, r2, r3, r4, r5, r6, r7, r8, r9, r10, r11, r12, r13, r14, r15, r16, r17, r18, r19, r20, r21, r22, r23, r24]⟩
    have r26 : l[26]?.getD false = true := Classical.byContradiction fun hc => by
      have hb := up 26 (by decide) hc
      refine absurd (?_ : 26 ∈ Region.ready _ _ l) (by rw [hz]; simp)
      unfold Region.ready
      rw [List.mem_filter]
      exact ⟨by simp, by simp [Region.binds, hb, r0, r1, r2, r3, r4, r5, r6, r7, r8, r9, r10, r11, r12, r13, r14, r15, r16, r17, r18, r19, r20, r21, r22, r23, r24, r25]⟩
    have r27 : l[27]?.getD false = true := Classical.byContradiction fun hc => by
      have hb := up 27 (by decide) hc
      refine absurd (?_ : 27 ∈ Region.ready _ _ l) (by rw [hz]; simp)
      unfold Region.ready
      rw [List.mem_filter]
      exact ⟨by simp, by simp [Region.binds, hb, r0, r1, r2, r3, r4, r5, r6, r7, r8, r9, r10, r11, r12, r13, r14, r15, r16, r17, r18, r19, r20, r21, r22, r23, r24, r25, r26]⟩
    have r28 : l[28]?.getD false = true := Classical.byContradiction fun hc => by
      have hb := up 28 (by decide) hc
      refine absurd (?_ : 28 ∈ Region.ready _ _ l) (by rw [hz]; simp)
      unfold Region.ready
      rw [List.mem_filter]
      exact ⟨by simp, by simp [Region.binds, hb, r0, r1, r2, r3, r4, r5, r6, r7, r8, r9, r10, r11, r12, r13, r14, r15, r16, r17, r18, r19, r20, r21, r22, r23, r24, r25, r26, r27]⟩
    have r29 : l[29]?.getD false = true := Classical.byContradiction fun hc => by
      have hb := up 29 (by decide) hc
      refine absurd (?_ : 29 ∈ Region.ready _ _ l) (by rw [hz]; simp)
      unfold Region.ready
      rw [List.mem_filter]
      exact ⟨by simp, by simp [Region.binds, hb, r0, r1, r2, r3, r4, r5, r6, r7, r8, r9, r10, r11, r12, r13, r14, r15, r16, r17, r18, r19, r20, r21, r22, r23, r24, r25, r26, r27, r28]⟩
    have r30 : l[30]?.getD false = true := Classical.byContradiction fun hc => by
      have hb := up 30 (by decide) hc
      refine absurd (?_ : 30 ∈ Region.ready _ _ l) (by rw [hz]; simp)
      unfold Region.ready
      rw [List.mem_filter]
      exact ⟨by simp, by simp [Region.binds, hb, r0, r1, r2, r3, r4, r5, r6, r7, r8, r9, r10, r11, r12, r13, r14, r15, r16, r17, r18, r19, r20, r21, r22, r23, r24, r25, r26, r27, r28, r29]⟩
    have r31 : l[31]?.getD false = true := Classical.byContradiction fun hc => by
      have hb := up 31 (by decide) hc
      refine absurd (?_ : 31 ∈ Region.ready _ _ l) (by rw [hz]; simp)
      unfold Region.ready
      rw [List.mem_filter]
      exact ⟨by simp, by simp [Region.binds, hb, r0, r1, r2, r3, r4, r5, r6, r7, r8, r9, r10, r11, r12, r13, r14, r15, r16, r17, r18, r19, r20, r21, r22, r23, r24, r25, r26, r27, r28, r29, r30]⟩
    have r32 : l[32]?.getD false = true := Classical.byContradiction fun hc => by
      have hb := up 32 (by decide) hc
      refine absurd (?_ : 32 ∈ Region.ready _ _ l) (by rw [hz]; simp)
      unfold Region.ready
      rw [List.mem_filter]
      exact ⟨by simp, by simp [Region.binds, hb, r0, r1, r2, r3, r4, r5, r6, r7, r8, r9, r10, r11, r12, r13, r14, r15, r16, r17, r18, r19, r20, r21, r22, r23, r24, r25, r26, r27, r28, r29, r30, r31]⟩
    have r33 : l[33]?.getD false = true := Classical.byContradiction fun hc => by
      have hb := up 33 (by decide) hc
      refine absurd (?_ : 33 ∈ Region.ready _ _ l) (by rw [hz]; simp)
      unfold Region.ready
      rw [List.mem_filter]
      exact ⟨by simp, by simp [Region.binds, hb, r0, r1, r2, r3, r4, r5, r6, r7, r8, r9, r10, r11, r12, r13, r14, r15, r16, r17, r18, r19, r20, r21, r22, r23, r24, r25, r26, r27, r28, r29, r30, r31, r32]⟩
    exact ⟨l, hI, r33⟩
  · exact Nat.le_refl 34
  · have no : ∀ i, ¬ ltW (Array.replicate 34 false) i := fun i h => by
      unfold ltW at h
      rw [Array.getElem?_replicate] at h
      split at h <;> cases h
    exact ⟨by simp, rfl, hs, fun _ _ => rfl, Ext.drew (Ext.refl _), fun i _ h => absurd h (no i)⟩

/-- So many slots from the sixteenth on are set. -/
def setAllW (A : Array Value) (u : Nat → Value) : Nat → Array Value
  | 0 => A
  | m + 1 => (setAllW A u m).setIfInBounds (16 + m) (u m)
theorem setAllW_at (A : Array Value) (u : Nat → Value) : ∀ m j, (setAllW A u m)[j]? = if 16 ≤ j ∧ j < 16 + m ∧ j < A.size then some (u (j - 16)) else A[j]? := by
  intro m
  induction m with
  | zero => intro j; rw [setAllW, if_neg (by omega)]
  | succ m ih =>
    intro j
    have hsz : ∀ m, (setAllW A u m).size = A.size := by
      intro m
      induction m with
      | zero => rfl
      | succ m ih => rw [setAllW, Array.size_setIfInBounds, ih]
    rw [setAllW, Array.getElem?_setIfInBounds, ih j, hsz]
    by_cases h : 16 + m = j
    · rw [if_pos h]
      by_cases h2 : 16 + m < A.size
      · rw [if_pos h2, if_pos (by omega), show j - 16 = m by omega]
      · rw [if_neg h2, if_neg (by omega)]
        exact (Array.getElem?_eq_none (by omega)).symm
    · rw [if_neg h]
      by_cases h2 : 16 ≤ j ∧ j < 16 + m ∧ j < A.size
      · rw [if_pos h2, if_pos (by omega)]
      · rw [if_neg h2, if_neg (by omega)]
def chainW (A : Array Value) (u : Nat → Value) : Array Value := ((((((((((((((((((((((((((((((((((A.setIfInBounds 16 (u 0)).setIfInBounds 17 (u 1)).setIfInBounds 18 (u 2)).setIfInBounds 19 (u 3)).setIfInBounds 20 (u 4)).setIfInBounds 21 (u 5)).setIfInBounds 22 (u 6)).setIfInBounds 23 (u 7)).setIfInBounds 24 (u 8)).setIfInBounds 25 (u 9)).setIfInBounds 26 (u 10)).setIfInBounds 27 (u 11)).setIfInBounds 28 (u 12)).setIfInBounds 29 (u 13)).setIfInBounds 30 (u 14)).setIfInBounds 31 (u 15)).setIfInBounds 32 (u 16)).setIfInBounds 33 (u 17)).setIfInBounds 34 (u 18)).setIfInBounds 35 (u 19)).setIfInBounds 36 (u 20)).setIfInBounds 37 (u 21)).setIfInBounds 38 (u 22)).setIfInBounds 39 (u 23)).setIfInBounds 40 (u 24)).setIfInBounds 41 (u 25)).setIfInBounds 42 (u 26)).setIfInBounds 43 (u 27)).setIfInBounds 44 (u 28)).setIfInBounds 45 (u 29)).setIfInBounds 46 (u 30)).setIfInBounds 47 (u 31)).setIfInBounds 48 (u 32)).setIfInBounds 49 (.bool false))

theorem ways_abs {P : Program} {c : Code} {Q : Exit → Act → World → Prop} {A : Array Value} {W : World} {b o n cap k : Nat} {p x y PV UV : Int} {NX : List Int} (hs : A.size = 60) (h : ∀ B, B = A → Code.wp P c (PostW B W b o n cap k p x y PV UV NX) ⟨B, []⟩ W)
    (hq : ∀ (u : Nat → Value) (w' : World), Ext W w' → Q .normal ⟨chainW A u, []⟩ w') : Code.wp P c Q ⟨A, []⟩ W := by
  refine Code.wp_mono ?_ (h A rfl)
  intro e a w' hp
  cases e with
  | normal =>
    obtain ⟨l, hI, h33⟩ := hp
    obtain ⟨T, d⟩ := a
    obtain rfl : d = [] := hI.d
    have hT : T.size = 60 := hI.len
    have h49 : T[49]? = some (.bool false) := hI.ph 33 (by decide) h33
    have e : T = setAllW A (fun i => T[16 + i]?.getD undef) 34 := by
      apply Array.ext_getElem?
      intro j
      rw [setAllW_at]
      by_cases hj : 16 ≤ j ∧ j < 16 + 34 ∧ j < A.size
      · rw [if_pos hj]
        show _ = some (T[16 + (j - 16)]?.getD undef)
        rw [show 16 + (j - 16) = j by omega, Array.getElem?_eq_getElem (by omega)]
        rfl
      · rw [if_neg hj]
        by_cases hj2 : j < 16 ∨ 50 ≤ j
        · exact hI.keep j hj2
        · exfalso; omega
    have e2 : setAllW A (fun i => T[16 + i]?.getD undef) 34 = chainW A (fun i => T[16 + i]?.getD undef) := by
      have e3 : ∀ (u : Nat → Value), u 33 = .bool false → setAllW A u 34 = chainW A u := fun u hu => by
        unfold chainW
        rw [← hu]
        rfl
      exact e3 _ (by show T[49]?.getD undef = _; rw [h49]; rfl)
    have := hq (fun i => T[16 + i]?.getD undef) w' hI.ext
    rw [← e2, ← e] at this
    exact this
  | _ => exact hp.elim

end Go.Proofs.Ytggpehmljpanjaa
