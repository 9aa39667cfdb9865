/- The second drawn region of OpsSizes: two lists of nils made, in whatever order, and stored. -/
import Derived.Test.YtbkncdjmodeabaaOpsSzReg
set_option linter.unusedSimpArgs false
set_option linter.unusedVariables false
set_option maxRecDepth 10000
namespace Go.Proofs.Ytbkncdjmodeabaa
open Go.RowKit

abbrev made (n : Nat) : Obj := .cells (madeCells nilV.cells (n * 5)) 25 (0, 0)
abbrev rowL (h n : Nat) : Obj := .cells #[.int .i64 4, .int .i64 0, .complex .f64 0 0, .string ⟨#[]⟩, .slice (some ⟨h, 0, none⟩) n n] 25 (0, 0)
abbrev pt (h : Nat) : Option Addr := some ⟨h, 0, none⟩

/-- What holds of memory behind the two stores. -/
structure Two (W : World) (s s' : ByteArray) (w : World) (g g' : Nat) : Prop where
  ext : Ext W w
  ne : g ≠ g'
  lo : W.heap.size ≤ g
  lo' : W.heap.size ≤ g'
  row : w.heap[g]? = some (rowOf 3 s)
  row' : w.heap[g']? = some (rowOf 3 s')

theorem makeV2 (n : Nat) (hn : n < 1100) (w : World) : (Instr.makeSlice 23 (.int .i64 (n : Int)) (.int .i64 (n : Int))).run Try.prog w = .ok (.slice (some ⟨w.heap.size, 0, none⟩) n n) (w.alloc (made n)) := by
  obtain ⟨i0, hi, hz0, hz1, hz2⟩ := info_parts infoV
  have h := run_make (P := Try.prog) w 23 25 i0 nilV Try.underlying23 hi hz0 .i64 .i64 (n : Int) (n : Int) (by omega) (by omega) (by rw [hz2]; omega) (by omega)
  rw [hz1] at h
  simpa using h

theorem made_cell (n i j : Nat) (hi : i < n) (hj : j < 5) : (madeCells nilV.cells (n * 5))[i * 5 + j]? = some (nilV.cells[j]!) := by
  have hs : nilV.cells.size = 5 := rfl
  unfold madeCells
  rw [Array.getElem?_map, Array.getElem?_range, if_pos (by omega)]
  simp only [Option.map_some, hs]
  have e : (i * 5 + j) % 5 = j := by omega
  rw [e]

theorem nils_made {w : World} {F : Nat → Prop} {h n : Nat} (hf : F h) (hr : w.heap[h]? = some (made n)) : RepL w F (nils n) (pt h) := by
  refine RepL.of fun i x hx => ?_
  have hi : i < n := by
    rcases Nat.lt_or_ge i n with q | q
    · exact q
    · rw [List.getElem?_eq_none (by rw [nils_len]; exact q)] at hx; cases hx
  have ex : x = nilP := by
    rw [List.getElem?_replicate, if_pos hi] at hx
    exact (Option.some.inj hx).symm
  subst ex
  have c : ∀ j, j < 5 → w.cell? ⟨h, 0 + i * 5 + j, none⟩ = some (nilV.cells[j]!) := fun j hj => by
    rw [Nat.zero_add]
    exact rowC hr _ (made_cell n i j hi hj)
  exact ⟨none, 0, hf, c 0 (by decide), c 1 (by decide), c 2 (by decide), c 3 (by decide), c 4 (by decide), by rw [nilP]; exact ⟨by decide, by decide, by decide, by decide, by decide, by decide, by decide, by decide, by decide⟩, by rw [nilP]; simp [PV.l, RepL]⟩

/-- Which slot an operation writes. -/
def dst4 : Nat → Nat
  | 0 => 28 | 1 => 29 | 2 => 30 | 3 => 31 | 4 => 32 | 5 => 33 | _ => 0
theorem dst4_ne : ∀ i, i < 6 → ∀ j, j < 6 → i ≠ j → dst4 i ≠ dst4 j := by decide
theorem dst4_lt : ∀ i, i < 6 → dst4 i < 92 := by decide

/-- What an operation's slot holds once it has come up. -/
def Psi (W : World) (n m : Nat) (w : World) : Nat → Option Value → Prop
  | 0, v => v = some (.int .i64 (n : Int))
  | 1, v => ∃ h, v = some (.slice (pt h) n n) ∧ W.heap.size ≤ h ∧ w.heap[h]? = some (made n)
  | 2, v => ∃ h, v = some (lV (pt h) n n) ∧ W.heap.size ≤ h ∧ w.heap[h]? = some (made n)
  | 3, v => v = some (.int .i64 (m : Int))
  | 4, v => ∃ h, v = some (.slice (pt h) m m) ∧ W.heap.size ≤ h ∧ w.heap[h]? = some (made m)
  | 5, v => ∃ h, v = some (lV (pt h) m m) ∧ W.heap.size ≤ h ∧ w.heap[h]? = some (made m)
  | _, _ => True

theorem Psi.on {W : World} {n m : Nat} {w w' : World} (e : Ext w w') : ∀ {i : Nat} {v : Option Value}, Psi W n m w i v → Psi W n m w' i v := by
  intro i v h
  match i, h with
  | 0, h => exact h
  | 1, h => obtain ⟨g, h1, h2, h3⟩ := h; exact ⟨g, h1, h2, e.row h3⟩
  | 2, h => obtain ⟨g, h1, h2, h3⟩ := h; exact ⟨g, h1, h2, e.row h3⟩
  | 3, h => exact h
  | 4, h => obtain ⟨g, h1, h2, h3⟩ := h; exact ⟨g, h1, h2, e.row h3⟩
  | 5, h => obtain ⟨g, h1, h2, h3⟩ := h; exact ⟨g, h1, h2, e.row h3⟩
  | _ + 6, _ => trivial

structure Fr4 (A : Array Value) (a : Act) : Prop where
  d : a.defers = []
  len : a.tmps.size = 92
  keep : ∀ k, (∀ i, i < 6 → k ≠ dst4 i) → a.tmps[k]? = A[k]?

theorem Fr4.put {A : Array Value} {a : Act} (h : Fr4 A a) (i : Nat) (hi : i < 6) (v : Value) : Fr4 A ⟨a.tmps.setIfInBounds (dst4 i) v, []⟩ := by
  refine ⟨rfl, by simp [h.len], fun k hk => ?_⟩
  rw [Array.getElem?_setIfInBounds, if_neg (fun e => hk i hi e.symm)]
  exact h.keep k hk

/-- Ahead of the stores. -/
structure PA4 (A : Array Value) (W : World) (n m : Nat) (l : Array Bool) (a : Act) (w : World) : Prop where
  fr : Fr4 A a
  ext : Ext W w
  ph : ∀ i, i < 6 → lt l i → Psi W n m w i a.tmps[dst4 i]?

theorem PA4.step {A : Array Value} {W : World} {n m : Nat} {l : Array Bool} {a : Act} {w w' : World} (h : PA4 A W n m l a w) (hl : l.size = 8) (i : Nat) (hi : i < 6) (hno : ¬ lt l i) (v : Value) (e : Ext w w')
    (hv : Psi W n m w' i (some v)) : PA4 A W n m (l.setIfInBounds i true) ⟨a.tmps.setIfInBounds (dst4 i) v, []⟩ w' := by
  have hd := dst4_lt i hi
  have hat : (a.tmps.setIfInBounds (dst4 i) v)[dst4 i]? = some v := by
    rw [Array.getElem?_setIfInBounds, if_pos rfl, if_pos (by rw [h.fr.len]; exact hd)]
  have hot : ∀ j, j < 6 → j ≠ i → (a.tmps.setIfInBounds (dst4 i) v)[dst4 j]? = a.tmps[dst4 j]? := fun j hj hne => by
    rw [Array.getElem?_setIfInBounds, if_neg (dst4_ne i hi j hj (Ne.symm hne))]
  refine ⟨h.fr.put i hi v, h.ext.trans e, fun j hj hlt => ?_⟩
  rcases (lt_set (by omega)).1 hlt with rfl | hlt2
  · show Psi W n m w' j ((a.tmps.setIfInBounds (dst4 j) v)[dst4 j]?)
    rw [hat]; exact hv
  · by_cases hji : j = i
    · subst hji; exact absurd hlt2 hno
    · show Psi W n m w' j ((a.tmps.setIfInBounds (dst4 i) v)[dst4 j]?)
      rw [hot j hj hji]
      exact (h.ph j hj hlt2).on e

/-- Behind the first store; behind both. -/
structure PB4 (A : Array Value) (W0 W : World) (g g' n m : Nat) (s' : ByteArray) (b : Bool) (a : Act) (w : World) : Prop where
  fr : Fr4 A a
  ext : Ext W0 w
  two : ∃ h h', a.tmps[33]? = some (lV (pt h') m m) ∧ W.heap.size ≤ h ∧ W.heap.size ≤ h' ∧ w.heap[h]? = some (made n) ∧ w.heap[h']? = some (made m) ∧ w.heap[g]? = some (rowL h n) ∧ w.heap[g']? = some (if b then rowL h' m else rowOf 3 s')

def Cl4 (l : Array Bool) : Prop := (lt l 5 → lt l 4) ∧ (lt l 4 → lt l 3)

theorem Cl4.step {l : Array Bool} (hl : l.size = 8) (h : Cl4 l) (i : Nat) (hi : i < 6) (h5 : i = 5 → lt l 4) (h4 : i = 4 → lt l 3) : Cl4 (l.setIfInBounds i true) := by
  refine ⟨fun q => ?_, fun q => ?_⟩
  · rcases (lt_set (by omega)).1 q with e | e
    · exact (lt_set (by omega)).2 (Or.inr (h5 e.symm))
    · exact (lt_set (by omega)).2 (Or.inr (h.1 e))
  · rcases (lt_set (by omega)).1 q with e | e
    · exact (lt_set (by omega)).2 (Or.inr (h4 e.symm))
    · exact (lt_set (by omega)).2 (Or.inr (h.2 e))

def Inv4 (A : Array Value) (W0 W : World) (g g' n m : Nat) (s' : ByteArray) (l : Array Bool) (a : Act) (w : World) : Prop :=
  l.size = 8 ∧ ((¬ lt l 6 ∧ ¬ lt l 7 ∧ Cl4 l ∧ PA4 A W n m l a w) ∨ (lt l 6 ∧ ¬ lt l 7 ∧ (∀ i, i < 6 → lt l i) ∧ PB4 A W0 W g g' n m s' false a w) ∨ (lt l 7 ∧ (∀ i, i < 7 → lt l i) ∧ PB4 A W0 W g g' n m s' true a w))

/-- What the region leaves. -/
def Post4 (A : Array Value) (W0 W : World) (g g' n m : Nat) (s' : ByteArray) : Exit → Act → World → Prop
  | .normal, a, w => PB4 A W0 W g g' n m s' true a w
  | _, _, _ => False

theorem Inv4.one {A : Array Value} {W0 W : World} {g g' n m : Nat} {s' : ByteArray} {l : Array Bool} {T : Array Value} {w w' : World} (hl : l.size = 8) (h6 : ¬ lt l 6) (h7 : ¬ lt l 7) (hcl : Cl4 l) (h : PA4 A W n m l ⟨T, []⟩ w) (i : Nat) (hi : i < 6) (hno : ¬ lt l i) (v : Value) (e : Ext w w')
    (hv : Psi W n m w' i (some v)) (h5 : i = 5 → lt l 4 := by intro q; cases q) (h4 : i = 4 → lt l 3 := by intro q; cases q) : Inv4 A W0 W g g' n m s' (l.setIfInBounds i true) ⟨T.setIfInBounds (dst4 i) v, []⟩ w' := by
  refine ⟨by simp [hl], Or.inl ⟨fun h => ?_, fun h => ?_, hcl.step hl i hi h5 h4, h.step hl i hi hno v e hv⟩⟩
  · rcases (lt_set (by omega)).1 h with h | h
    · omega
    · exact h6 h
  · rcases (lt_set (by omega)).1 h with h | h
    · omega
    · exact h7 h

theorem enterRList (v : Value) (w : World) : (callFunc 8 #[v]).run Try.prog w = .ok (.enter 8 #[v]) w := by kernel_rfl

set_option maxHeartbeats 4000000 in
theorem region4 (A : Array Value) (W0 W : World) (g g' n m : Nat) (s s' : ByteArray) (hs : A.size = 92) (t0 : A[0]? = some (.int .i64 (n : Int))) (t1 : A[1]? = some (.int .i64 (m : Int))) (t7 : A[7]? = some (ptr g)) (t8 : A[8]? = some (ptr g'))
    (hT : Hd (Two W0 s s' W g g')) (mk : ∀ W : World, (Instr.makeSlice 23 (.int .i64 (n : Int)) (.int .i64 (n : Int))).run Try.prog W = .ok (.slice (some ⟨W.heap.size, 0, none⟩) n n) (W.alloc (made n)))
    (mk' : ∀ W : World, (Instr.makeSlice 23 (.int .i64 (m : Int)) (.int .i64 (m : Int))).run Try.prog W = .ok (.slice (some ⟨W.heap.size, 0, none⟩) m m) (W.alloc (made m))) :
    Code.wp Try.prog ((Try.f4.body.bind (regionAt 4)).getD .skip) (Post4 A W0 W g g' n m s') ⟨A, []⟩ W := by
  conv => arg 2; whnf
  refine wp_region_any (by kernel_rfl) (wpAny_inv (Inv4 A W0 W g g' n m s') ?_ ?_ _ _ _ _ ?_ ?_)
  · intro l a w hI i hi
    have hr := hi
    unfold Region.ready at hr
    rw [List.mem_filter] at hr
    obtain ⟨hr1, hr2⟩ := hr
    have h12 : i < 8 := by simpa using hr1
    clear hr1 hi
    rcases (show i = 0 ∨ i = 1 ∨ i = 2 ∨ i = 3 ∨ i = 4 ∨ i = 5 ∨ i = 6 ∨ i = 7 by omega) with rfl | rfl | rfl | rfl | rfl | rfl | rfl | rfl
    · simp [Region.binds] at hr2
      obtain ⟨hl, hPh⟩ := hI
      have hno := not_lt hr2
      rcases hPh with ⟨h6, h7, hcl, hP⟩ | ⟨_, _, hall, _⟩ | ⟨_, hall, _⟩
      case inr.inl => exact absurd (hall 0 (by decide)) hno
      case inr.inr => exact absurd (hall 0 (by decide)) hno
      obtain ⟨T, d⟩ := a
      obtain rfl : d = [] := hP.fr.d
      have hTs : T.size = 92 := hP.fr.len
      have u0 : T[0] = .int .i64 (n : Int) := at_eq (A := T) (i := 0) ((hP.fr.keep 0 (by decide)).trans t0) (by omega)
      refine wpOp_some rfl rfl ?_
      go_simp
      exact Inv4.one hl h6 h7 hcl hP 0 (by decide) hno _ (Ext.refl _) rfl
    · simp [Region.binds] at hr2
      obtain ⟨hl, hPh⟩ := hI
      have hno := not_lt hr2.1
      rcases hPh with ⟨h6, h7, hcl, hP⟩ | ⟨_, _, hall, _⟩ | ⟨_, hall, _⟩
      case inr.inl => exact absurd (hall 1 (by decide)) hno
      case inr.inr => exact absurd (hall 1 (by decide)) hno
      obtain ⟨T, d⟩ := a
      obtain rfl : d = [] := hP.fr.d
      have hTs : T.size = 92 := hP.fr.len
      have u28 : T[28] = .int .i64 (n : Int) := at_eq (A := T) (i := 28) (hP.ph 0 (by decide) hr2.2) (by omega)
      have hle := hP.ext.le
      refine wpOp_some rfl rfl ?_
      go_simp
      exact Inv4.one hl h6 h7 hcl hP 1 (by decide) hno _ (Ext.alloc _ _) ⟨_, rfl, hle, heap_alloc_new _ _⟩
    · simp [Region.binds] at hr2
      obtain ⟨hl, hPh⟩ := hI
      have hno := not_lt hr2.1
      rcases hPh with ⟨h6, h7, hcl, hP⟩ | ⟨_, _, hall, _⟩ | ⟨_, hall, _⟩
      case inr.inl => exact absurd (hall 2 (by decide)) hno
      case inr.inr => exact absurd (hall 2 (by decide)) hno
      obtain ⟨T, d⟩ := a
      obtain rfl : d = [] := hP.fr.d
      have hTs : T.size = 92 := hP.fr.len
      obtain ⟨h, hg, lo, hrow⟩ := hP.ph 1 (by decide) hr2.2
      have u29 : T[29] = .slice (pt h) n n := at_eq (A := T) (i := 29) hg (by omega)
      refine wpOp_some rfl rfl ?_
      refine wp_call_one 8 (.tmp 29) 23 rfl (.slice (pt h) n n) (by simp [Act.eval, hTs, u29]) (enterRList _ _) (Calls.mono (rlist_any _ _ _ _) ?_)
      rintro e w1 ⟨rfl, hx⟩
      exact ⟨_, rfl, Inv4.one hl h6 h7 hcl hP 2 (by decide) hno _ hx ⟨h, rfl, lo, hx.row hrow⟩⟩
    · simp [Region.binds] at hr2
      obtain ⟨hl, hPh⟩ := hI
      have hno := not_lt hr2
      rcases hPh with ⟨h6, h7, hcl, hP⟩ | ⟨_, _, hall, _⟩ | ⟨_, hall, _⟩
      case inr.inl => exact absurd (hall 3 (by decide)) hno
      case inr.inr => exact absurd (hall 3 (by decide)) hno
      obtain ⟨T, d⟩ := a
      obtain rfl : d = [] := hP.fr.d
      have hTs : T.size = 92 := hP.fr.len
      have u1 : T[1] = .int .i64 (m : Int) := at_eq (A := T) (i := 1) ((hP.fr.keep 1 (by decide)).trans t1) (by omega)
      refine wpOp_some rfl rfl ?_
      go_simp
      exact Inv4.one hl h6 h7 hcl hP 3 (by decide) hno _ (Ext.refl _) rfl
    · simp [Region.binds] at hr2
      obtain ⟨hl, hPh⟩ := hI
      have hno := not_lt hr2.1
      rcases hPh with ⟨h6, h7, hcl, hP⟩ | ⟨_, _, hall, _⟩ | ⟨_, hall, _⟩
      case inr.inl => exact absurd (hall 4 (by decide)) hno
      case inr.inr => exact absurd (hall 4 (by decide)) hno
      obtain ⟨T, d⟩ := a
      obtain rfl : d = [] := hP.fr.d
      have hTs : T.size = 92 := hP.fr.len
      have u31 : T[31] = .int .i64 (m : Int) := at_eq (A := T) (i := 31) (hP.ph 3 (by decide) hr2.2) (by omega)
      have hle := hP.ext.le
      refine wpOp_some rfl rfl ?_
      go_simp
      exact Inv4.one hl h6 h7 hcl hP 4 (by decide) hno _ (Ext.alloc _ _) ⟨_, rfl, hle, heap_alloc_new _ _⟩ (h4 := fun _ => hr2.2)
    · simp [Region.binds] at hr2
      obtain ⟨hl, hPh⟩ := hI
      have hno := not_lt hr2.1
      rcases hPh with ⟨h6, h7, hcl, hP⟩ | ⟨_, _, hall, _⟩ | ⟨_, hall, _⟩
      case inr.inl => exact absurd (hall 5 (by decide)) hno
      case inr.inr => exact absurd (hall 5 (by decide)) hno
      obtain ⟨T, d⟩ := a
      obtain rfl : d = [] := hP.fr.d
      have hTs : T.size = 92 := hP.fr.len
      obtain ⟨h, hg, lo, hrow⟩ := hP.ph 4 (by decide) hr2.2.1
      have u32 : T[32] = .slice (pt h) m m := at_eq (A := T) (i := 32) hg (by omega)
      refine wpOp_some rfl rfl ?_
      refine wp_call_one 8 (.tmp 32) 23 rfl (.slice (pt h) m m) (by simp [Act.eval, hTs, u32]) (enterRList _ _) (Calls.mono (rlist_any _ _ _ _) ?_)
      rintro e w1 ⟨rfl, hx⟩
      exact ⟨_, rfl, Inv4.one hl h6 h7 hcl hP 5 (by decide) hno _ hx ⟨h, rfl, lo, hx.row hrow⟩ (h5 := fun _ => hr2.2.1)⟩
    · simp [Region.binds] at hr2
      obtain ⟨hl, hPh⟩ := hI
      obtain ⟨q6, q2, q5, q0, q1, _⟩ := hr2
      have hno := not_lt q6
      rcases hPh with ⟨h6, h7, hcl, hP⟩ | ⟨k, _⟩ | ⟨_, hall, _⟩
      case inr.inl => exact absurd k hno
      case inr.inr => exact absurd (hall 6 (by decide)) hno
      obtain ⟨T, d⟩ := a
      obtain rfl : d = [] := hP.fr.d
      have hTs : T.size = 92 := hP.fr.len
      obtain ⟨h, hg, lo, hrow⟩ := hP.ph 2 (by decide) q2
      obtain ⟨h', hg', lo', hrow'⟩ := hP.ph 5 (by decide) q5
      have hT' := unhide hT
      have rg : w.heap[g]? = some (rowOf 3 s) := hP.ext.row hT'.row
      have rg' : w.heap[g']? = some (rowOf 3 s') := hP.ext.row hT'.row'
      have lg : g < W.heap.size := (Array.getElem?_eq_some_iff.1 hT'.row).1
      have lg' : g' < W.heap.size := (Array.getElem?_eq_some_iff.1 hT'.row').1
      have u7 : T[7] = ptr g := at_eq (A := T) (i := 7) ((hP.fr.keep 7 (by decide)).trans t7) (by omega)
      have u30 : T[30] = lV (pt h) n n := at_eq (A := T) (i := 30) hg (by omega)
      have fN := Five.ofRow rg
      have z0 := fN.c0
      have z1 := fN.c1
      have z2 := fN.c2
      have z3 := fN.c3
      have z4 := fN.c4
      have zf := fN.fz
      have fin : Inv4 A W0 W g g' n m s' (l.setIfInBounds 6 true) ⟨T, []⟩ (set5 w g 4 0 0 0 ⟨#[]⟩ (pt h) n n) := by
        refine ⟨by simp [hl], Or.inr (Or.inl ⟨(lt_set (by omega)).2 (Or.inl rfl), fun h => ?_, fun i hi => (lt_set (by omega)).2 (Or.inr ?_), ⟨hP.fr, set5_ext (hT'.ext.trans hP.ext) g hT'.lo _ _ _ _ _ _ _ _, h, h', hg', lo, lo', ?_, ?_, ?_, ?_⟩⟩)⟩
        · rcases (lt_set (by omega)).1 h with h | h
          · cases h
          · exact h7 h
        · have q4 := hcl.1 q5
          have q3 := hcl.2 q4
          rcases (show i = 0 ∨ i = 1 ∨ i = 2 ∨ i = 3 ∨ i = 4 ∨ i = 5 by omega) with rfl | rfl | rfl | rfl | rfl | rfl <;> assumption
        · rw [set5_other _ _ _ (by omega)]
          exact hrow
        · rw [set5_other _ _ _ (by omega)]
          exact hrow'
        · unfold set5
          rw [row_set (row_set (row_set (row_set (row_set rg _ _) _ _) _ _) _ _) _ _]
          rfl
        · rw [set5_other _ _ _ (Ne.symm hT'.ne)]
          exact rg'
      clear fN hP hg hg' hrow hrow' hT' rg rg'
      refine wpOp_some rfl rfl ?_
      go_simp
    · simp [Region.binds] at hr2
      obtain ⟨hl, hPh⟩ := hI
      have hno := not_lt hr2.1
      rcases hPh with ⟨h6, _⟩ | ⟨k6, k7, hall, hP⟩ | ⟨k, _⟩
      case inl => exact absurd (by simp_all) h6
      case inr.inr => exact absurd k hno
      obtain ⟨T, d⟩ := a
      obtain rfl : d = [] := hP.fr.d
      have hTs : T.size = 92 := hP.fr.len
      obtain ⟨h, h', hg', lo, lo', hrow, hrow', rg, rg'⟩ := hP.two
      have hT' := unhide hT
      replace rg' : w.heap[g']? = some (rowOf 3 s') := rg'
      have lg : g < W.heap.size := (Array.getElem?_eq_some_iff.1 hT'.row).1
      have lg' : g' < W.heap.size := (Array.getElem?_eq_some_iff.1 hT'.row').1
      have u8 : T[8] = ptr g' := at_eq (A := T) (i := 8) ((hP.fr.keep 8 (by decide)).trans t8) (by omega)
      have u33 : T[33] = lV (pt h') m m := at_eq (A := T) (i := 33) hg' (by omega)
      have fN := Five.ofRow rg'
      have z0 := fN.c0
      have z1 := fN.c1
      have z2 := fN.c2
      have z3 := fN.c3
      have z4 := fN.c4
      have zf := fN.fz
      have fin : Inv4 A W0 W g g' n m s' (l.setIfInBounds 7 true) ⟨T, []⟩ (set5 w g' 4 0 0 0 ⟨#[]⟩ (pt h') m m) := by
        refine ⟨by simp [hl], Or.inr (Or.inr ⟨(lt_set (by omega)).2 (Or.inl rfl), fun i hi => (lt_set (by omega)).2 (Or.inr ?_), ⟨hP.fr, set5_ext hP.ext g' hT'.lo' _ _ _ _ _ _ _ _, h, h', hg', lo, lo', ?_, ?_, ?_, ?_⟩⟩)⟩
        · rcases (show i < 6 ∨ i = 6 by omega) with h | rfl
          · exact hall i h
          · exact k6
        · rw [set5_other _ _ _ (by omega)]
          exact hrow
        · rw [set5_other _ _ _ (by omega)]
          exact hrow'
        · rw [set5_other _ _ _ hT'.ne]
          exact rg
        · unfold set5
          rw [row_set (row_set (row_set (row_set (row_set rg' _ _) _ _) _ _) _ _) _ _]
          rfl
      clear fN hP hg' hrow hrow' hT' rg rg'
      refine wpOp_some rfl rfl ?_
      go_simp
  · intro l a w hI hz
    obtain ⟨hl, hPh⟩ := hI
    have up : ∀ i, i < 8 → (lt l i → False) → l[i]?.getD true = false := fun i hi hc => by
      have e : l[i]? = some l[i] := Array.getElem?_eq_getElem (by omega)
      rw [e]
      cases hb : l[i] with
      | false => rfl
      | true => exact absurd (by unfold lt; rw [e, hb]; rfl) hc
    rcases hPh with ⟨h6, h7, _, _⟩ | ⟨k6, k7, hall, hP⟩ | ⟨_, _, hP⟩
    · exfalso
      have r0 : l[0]?.getD false = true := Classical.byContradiction fun hc => by
        have hb := up 0 (by decide) hc
        refine absurd (?_ : 0 ∈ Region.ready _ _ l) (by rw [hz]; simp)
        unfold Region.ready
        rw [List.mem_filter]
        exact ⟨by simp, by simp [Region.binds, hb]⟩
      have r1 : l[1]?.getD false = true := Classical.byContradiction fun hc => by
        have hb := up 1 (by decide) hc
        refine absurd (?_ : 1 ∈ Region.ready _ _ l) (by rw [hz]; simp)
        unfold Region.ready
        rw [List.mem_filter]
        exact ⟨by simp, by simp [Region.binds, hb, r0]⟩
      have r2 : l[2]?.getD false = true := Classical.byContradiction fun hc => by
        have hb := up 2 (by decide) hc
        refine absurd (?_ : 2 ∈ Region.ready _ _ l) (by rw [hz]; simp)
        unfold Region.ready
        rw [List.mem_filter]
        exact ⟨by simp, by simp [Region.binds, hb, r1]⟩
      have r3 : l[3]?.getD false = true := Classical.byContradiction fun hc => by
        have hb := up 3 (by decide) hc
        refine absurd (?_ : 3 ∈ Region.ready _ _ l) (by rw [hz]; simp)
        unfold Region.ready
        rw [List.mem_filter]
        exact ⟨by simp, by simp [Region.binds, hb]⟩
      have r4 : l[4]?.getD false = true := Classical.byContradiction fun hc => by
        have hb := up 4 (by decide) hc
        refine absurd (?_ : 4 ∈ Region.ready _ _ l) (by rw [hz]; simp)
        unfold Region.ready
        rw [List.mem_filter]
        exact ⟨by simp, by simp [Region.binds, hb, r3]⟩
      have r5 : l[5]?.getD false = true := Classical.byContradiction fun hc => by
        have hb := up 5 (by decide) hc
        refine absurd (?_ : 5 ∈ Region.ready _ _ l) (by rw [hz]; simp)
        unfold Region.ready
        rw [List.mem_filter]
        exact ⟨by simp, by simp [Region.binds, hb, r4, r2]⟩
      have hb := up 6 (by decide) h6
      refine absurd (?_ : 6 ∈ Region.ready _ _ l) (by rw [hz]; simp)
      unfold Region.ready
      rw [List.mem_filter]
      exact ⟨by simp, by simp [Region.binds, hb, r0, r1, r2, r3, r4, r5]⟩
    · exfalso
      have r0 : l[0]?.getD false = true := hall 0 (by decide)
      have r1 : l[1]?.getD false = true := hall 1 (by decide)
      have r2 : l[2]?.getD false = true := hall 2 (by decide)
      have r3 : l[3]?.getD false = true := hall 3 (by decide)
      have r4 : l[4]?.getD false = true := hall 4 (by decide)
      have r5 : l[5]?.getD false = true := hall 5 (by decide)
      have r6 : l[6]?.getD false = true := k6
      have hb := up 7 (by decide) k7
      refine absurd (?_ : 7 ∈ Region.ready _ _ l) (by rw [hz]; simp)
      unfold Region.ready
      rw [List.mem_filter]
      exact ⟨by simp, by simp [Region.binds, hb, r0, r1, r2, r3, r4, r5, r6]⟩
    · exact hP
  · exact Nat.le_refl 8
  · show Inv4 A W0 W g g' n m s' (Array.replicate 8 false) ⟨A, []⟩ W.drew
    have no : ∀ i, ¬ lt (Array.replicate 8 false) i := fun i h => by
      unfold lt at h
      rw [Array.getElem?_replicate] at h
      split at h <;> cases h
    exact ⟨by simp, Or.inl ⟨no 6, no 7, ⟨fun h => absurd h (no 5), fun h => absurd h (no 4)⟩, ⟨⟨rfl, hs, fun _ _ => rfl⟩, Ext.drew (Ext.refl _), fun i _ h => absurd h (no i)⟩⟩⟩

end Go.Proofs.Ytbkncdjmodeabaa
