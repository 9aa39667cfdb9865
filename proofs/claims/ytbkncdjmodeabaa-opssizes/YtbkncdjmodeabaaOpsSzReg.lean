/- The first drawn region of OpsSizes: two texts of noughts made, in whatever order. -/
import Derived.Test.YtbkncdjmodeabaaOpsSz
import Derived.Test.YtbkncdjmodeabaaOpsRegs
import Derived.Test.YtbkncdjmodeabaaAnyInv
import Derived.OwnWalk
import Derived.Laws.BytesString
set_option linter.unusedSimpArgs false
set_option linter.unusedVariables false
set_option maxRecDepth 10000
namespace Go.Proofs.Ytbkncdjmodeabaa
open Go.RowKit

theorem wpOp_some {P : Program} {ops : Array Oper} {Q : Exit → Act → World → Prop} {i : Nat} {o : Oper} {K : Act → World → Prop} {a : Act} {w : World} (hi : ops[i]? = some o) (hg : o.guard = none) (h : o.wp P a w K Q) : wpOp P ops Q i K a w := by
  unfold wpOp
  rw [hi]
  have hw : Region.wanted o (yielded ops a.tmps) = true := by simp [Region.wanted, hg]
  simp only [hw, if_true]
  exact Or.inl h

/-- Which slot an operation writes. -/
def dst : Nat → Nat
  | 0 => 19 | 1 => 20 | 2 => 21 | 3 => 22 | 4 => 23 | 5 => 24 | 6 => 25 | 7 => 26 | 8 => 7 | 9 => 8 | _ => 0
theorem dst_ne : ∀ i, i < 10 → ∀ j, j < 10 → i ≠ j → dst i ≠ dst j := by decide
theorem dst_lt : ∀ i, i < 10 → dst i < 92 := by decide

abbrev ptr (g : Nat) : Value := .pointer (some ⟨g, 0, none⟩)
abbrev rowOf (k : Int) (s : ByteArray) : Obj := .cells #[.int .i64 k, .int .i64 0, .complex .f64 0 0, .string s, .slice none 0 0] 25 (0, 0)

/-- What an operation's slot holds once it has come up. -/
def Phi (W : World) (n m : Nat) (Z Z' : Array Value) (s s' : ByteArray) (w : World) : Nat → Option Value → Prop
  | 0, v => v = some (.int .i64 (n : Int))
  | 1, v => ∃ g, v = some (.slice (some ⟨g, 0, none⟩) n n) ∧ w.heap[g]? = some (.cells Z 5 (0, 0))
  | 2, v => v = some (.string s)
  | 3, v => v = some (tV s)
  | 4, v => v = some (.int .i64 (m : Int))
  | 5, v => ∃ g, v = some (.slice (some ⟨g, 0, none⟩) m m) ∧ w.heap[g]? = some (.cells Z' 5 (0, 0))
  | 6, v => v = some (.string s')
  | 7, v => v = some (tV s')
  | 8, v => ∃ g, v = some (ptr g) ∧ W.heap.size ≤ g ∧ w.heap[g]? = some (rowOf 0 ⟨#[]⟩)
  | 9, v => ∃ g, v = some (ptr g) ∧ W.heap.size ≤ g ∧ w.heap[g]? = some (rowOf 0 ⟨#[]⟩)
  | _, _ => True

theorem Phi.on {W : World} {n m : Nat} {Z Z' : Array Value} {s s' : ByteArray} {w w' : World} (e : Ext w w') : ∀ {i : Nat} {v : Option Value}, Phi W n m Z Z' s s' w i v → Phi W n m Z Z' s s' w' i v := by
  intro i v h
  match i, h with
  | 0, h => exact h
  | 1, h => obtain ⟨g, h1, h2⟩ := h; exact ⟨g, h1, e.row h2⟩
  | 2, h => exact h
  | 3, h => exact h
  | 4, h => exact h
  | 5, h => obtain ⟨g, h1, h2⟩ := h; exact ⟨g, h1, e.row h2⟩
  | 6, h => exact h
  | 7, h => exact h
  | 8, h => obtain ⟨g, h1, h2, h3⟩ := h; exact ⟨g, h1, h2, e.row h3⟩
  | 9, h => obtain ⟨g, h1, h2, h3⟩ := h; exact ⟨g, h1, h2, e.row h3⟩
  | _ + 10, _ => trivial

abbrev lt (l : Array Bool) (i : Nat) : Prop := l[i]?.getD false = true
theorem not_lt {l : Array Bool} {i : Nat} (h : l[i]?.getD true = false) : ¬ lt l i := by
  unfold lt
  cases hl : l[i]? with
  | none => rw [hl] at h; cases h
  | some b => rw [hl] at h; cases b <;> simp_all

theorem lt_set {l : Array Bool} {i j : Nat} (hi : i < l.size) : lt (l.setIfInBounds i true) j ↔ j = i ∨ lt l j := by
  unfold lt
  rw [Array.getElem?_setIfInBounds]
  by_cases h : i = j
  · subst h
    simp [hi]
  · simp [h, Ne.symm h]

/-- The frame: the slots that no operation writes are as they were. -/
structure Fr (A : Array Value) (a : Act) : Prop where
  d : a.defers = []
  len : a.tmps.size = 92
  keep : ∀ k, (∀ i, i < 10 → k ≠ dst i) → a.tmps[k]? = A[k]?

theorem Fr.put {A : Array Value} {a : Act} (h : Fr A a) (i : Nat) (hi : i < 10) (v : Value) : Fr A ⟨a.tmps.setIfInBounds (dst i) v, []⟩ := by
  refine ⟨rfl, by simp [h.len], fun k hk => ?_⟩
  rw [Array.getElem?_setIfInBounds, if_neg (fun e => hk i hi e.symm)]
  exact h.keep k hk

/-- Ahead of the stores. -/
structure PA (A : Array Value) (W : World) (n m : Nat) (Z Z' : Array Value) (s s' : ByteArray) (l : Array Bool) (a : Act) (w : World) : Prop where
  fr : Fr A a
  ext : Ext W w
  ph : ∀ i, i < 10 → lt l i → Phi W n m Z Z' s s' w i a.tmps[dst i]?
  ne : lt l 8 → lt l 9 → ∀ g g', a.tmps[7]? = some (ptr g) → a.tmps[8]? = some (ptr g') → g ≠ g'

theorem PA.step {A : Array Value} {W : World} {n m : Nat} {Z Z' : Array Value} {s s' : ByteArray} {l : Array Bool} {a : Act} {w w' : World} (h : PA A W n m Z Z' s s' l a w) (hl : l.size = 12) (i : Nat) (hi : i < 10) (hno : ¬ lt l i) (v : Value) (e : Ext w w')
    (hv : Phi W n m Z Z' s s' w' i (some v)) (hf : ∀ g, v = ptr g → w.heap.size ≤ g) : PA A W n m Z Z' s s' (l.setIfInBounds i true) ⟨a.tmps.setIfInBounds (dst i) v, []⟩ w' := by
  have hd := dst_lt i hi
  have hat : (a.tmps.setIfInBounds (dst i) v)[dst i]? = some v := by
    rw [Array.getElem?_setIfInBounds, if_pos rfl, if_pos (by rw [h.fr.len]; exact hd)]
  have hot : ∀ j, j < 10 → j ≠ i → (a.tmps.setIfInBounds (dst i) v)[dst j]? = a.tmps[dst j]? := fun j hj hne => by
    rw [Array.getElem?_setIfInBounds, if_neg (dst_ne i hi j hj (Ne.symm hne))]
  refine ⟨h.fr.put i hi v, h.ext.trans e, fun j hj hlt => ?_, fun h8 h9 g g' p p' => ?_⟩
  · rcases (lt_set (by omega)).1 hlt with rfl | hlt2
    · show Phi W n m Z Z' s s' w' j ((a.tmps.setIfInBounds (dst j) v)[dst j]?)
      rw [hat]; exact hv
    · by_cases hji : j = i
      · subst hji; exact absurd hlt2 hno
      · show Phi W n m Z Z' s s' w' j ((a.tmps.setIfInBounds (dst i) v)[dst j]?)
        rw [hot j hj hji]
        exact (h.ph j hj hlt2).on e
  · have q : (a.tmps.setIfInBounds (dst i) v)[dst 8]? = some (ptr g) := p
    have q' : (a.tmps.setIfInBounds (dst i) v)[dst 9]? = some (ptr g') := p'
    rcases (lt_set (by omega)).1 h8 with rfl | k8
    · rcases (lt_set (by omega)).1 h9 with h | k9
      · cases h
      · rw [hat] at q
        rw [hot 9 (by decide) (by decide)] at q'
        obtain ⟨x, hx, _, hr⟩ := h.ph 9 (by decide) k9
        rw [q'] at hx
        have hx' : g' = x := by injection hx with hx; injection hx with hx; injection hx with hx; injection hx
        have hlt : x < w.heap.size := (Array.getElem?_eq_some_iff.1 hr).1
        have := hf g (Option.some.inj q)
        omega
    · rcases (lt_set (by omega)).1 h9 with rfl | k9
      · rw [hat] at q'
        rw [hot 8 (by decide) (by decide)] at q
        obtain ⟨x, hx, _, hr⟩ := h.ph 8 (by decide) k8
        rw [q] at hx
        have hx' : g = x := by injection hx with hx; injection hx with hx; injection hx with hx; injection hx
        have hlt : x < w.heap.size := (Array.getElem?_eq_some_iff.1 hr).1
        have := hf g' (Option.some.inj q')
        omega
      · have n8 : (8 : Nat) ≠ i := fun e => hno (e ▸ k8)
        have n9 : (9 : Nat) ≠ i := fun e => hno (e ▸ k9)
        rw [hot 8 (by decide) n8] at q
        rw [hot 9 (by decide) n9] at q'
        exact h.ne k8 k9 g g' q q'

theorem fold_push (l : List UInt8) (r : ByteArray) : (l.map fun c => (c.toNat : Int)).foldl (fun r n => r.push (UInt8.ofNat n.toNat)) r = ⟨r.data ++ l.toArray⟩ := by
  induction l generalizing r with
  | nil => simp
  | cons c t ih =>
    simp only [List.map_cons, List.foldl_cons, Int.toNat_natCast, UInt8.ofNat_toNat]
    rw [ih]
    apply ByteArray.ext
    simp [ByteArray.push]
theorem info5 : (Try.prog.info? 5).map (fun i => (i.zero, i.size, i.bytes)) = some (some (.int .u8 0), 1, 1) := by kernel_rfl

/-- A row of noughts, made; read as a text wherever it stands. -/
theorem zeros2 (n : Nat) (hn : n < 1100) : ∃ (Z : Array Value) (s : ByteArray), s.size = n ∧ (∀ W : World, (Instr.makeSlice 35 (.int .i64 (n : Int)) (.int .i64 (n : Int))).run Try.prog W = .ok (.slice (some ⟨W.heap.size, 0, none⟩) n n) (W.alloc (.cells Z 5))) ∧
    (∀ (w : World) (g : Nat), w.heap[g]? = some (.cells Z 5 (0, 0)) → (convert 35 9 (.slice (some ⟨g, 0, none⟩) n n)).run Try.prog w = .ok (.string s) w) := by
  obtain ⟨i0, hi, hz0, hz1, hz2⟩ := info_parts info5
  refine ⟨madeCells (Value.int .u8 0).cells (n * 1), ⟨(List.replicate n 0).toArray⟩, by simp [ByteArray.size], ?_, ?_⟩
  · intro W
    have h := run_make (P := Try.prog) W 35 5 i0 (.int .u8 0) Try.underlying35 hi hz0 .i64 .i64 (n : Int) (n : Int) (by omega) (by omega) (by rw [hz2]; omega) (by omega)
    rw [hz1] at h
    simpa using h
  · intro w g hg
    rw [run_convert_bytes_string _ 35 9 5 _ _ _ Try.underlying35 Try.underlying5 Try.underlying9]
    rw [run_bytesToString _ ⟨g, 0, none⟩ n n ((List.replicate n (0 : UInt8)).map fun c => (c.toNat : Int)) ?_]
    · rw [fold_push]; simp
    · have hl : (((List.replicate n (0 : UInt8)).map fun c => (c.toNat : Int)).map (Value.int .u8)).length = n := by simp
      have := run_loadCells_list (P := Try.prog) (w := w) ⟨g, 0, none⟩ (((List.replicate n (0 : UInt8)).map fun c => (c.toNat : Int)).map (Value.int .u8)) (fun j u hj => by
        rw [add0, cell_of_row _ _ j _ _ (0, 0) hg]
        have hlt : j < n := by
          rcases Nat.lt_or_ge j n with q | q
          · exact q
          · rw [List.getElem?_eq_none (by rw [hl]; exact q)] at hj; cases hj
        have e := toList_madeCells_one (.int .u8 0) (n * 1)
        rw [← Array.getElem?_toList]
        show (madeCells #[.int .u8 0] (n * 1)).toList[j]? = _
        rw [e, ← hj]
        simp [List.getElem?_replicate])
      rw [hl] at this
      exact this

/-- Behind the first store; behind both. -/
structure PB (A : Array Value) (W : World) (s s' : ByteArray) (b : Bool) (a : Act) (w : World) : Prop where
  fr : Fr A a
  ext : Ext W w
  v26 : a.tmps[26]? = some (tV s')
  two : ∃ g g', a.tmps[7]? = some (ptr g) ∧ a.tmps[8]? = some (ptr g') ∧ g ≠ g' ∧ W.heap.size ≤ g ∧ W.heap.size ≤ g' ∧ w.heap[g]? = some (rowOf 3 s) ∧ w.heap[g']? = some (if b then rowOf 3 s' else rowOf 0 ⟨#[]⟩)

/-- What has come up stands on what it needs. -/
def Cl (l : Array Bool) : Prop := (lt l 7 → lt l 6) ∧ (lt l 6 → lt l 5) ∧ (lt l 5 → lt l 4)

theorem Cl.step {l : Array Bool} (hl : l.size = 12) (h : Cl l) (i : Nat) (hi : i < 10) (h7 : i = 7 → lt l 6) (h6 : i = 6 → lt l 5) (h5 : i = 5 → lt l 4) : Cl (l.setIfInBounds i true) := by
  refine ⟨fun q => ?_, fun q => ?_, fun q => ?_⟩
  · rcases (lt_set (by omega)).1 q with e | e
    · exact (lt_set (by omega)).2 (Or.inr (h7 e.symm))
    · exact (lt_set (by omega)).2 (Or.inr (h.1 e))
  · rcases (lt_set (by omega)).1 q with e | e
    · exact (lt_set (by omega)).2 (Or.inr (h6 e.symm))
    · exact (lt_set (by omega)).2 (Or.inr (h.2.1 e))
  · rcases (lt_set (by omega)).1 q with e | e
    · exact (lt_set (by omega)).2 (Or.inr (h5 e.symm))
    · exact (lt_set (by omega)).2 (Or.inr (h.2.2 e))

def Inv2 (A : Array Value) (W : World) (n m : Nat) (Z Z' : Array Value) (s s' : ByteArray) (l : Array Bool) (a : Act) (w : World) : Prop :=
  l.size = 12 ∧ ((¬ lt l 10 ∧ ¬ lt l 11 ∧ Cl l ∧ PA A W n m Z Z' s s' l a w) ∨ (lt l 10 ∧ ¬ lt l 11 ∧ (∀ i, i < 10 → lt l i) ∧ PB A W s s' false a w) ∨ (lt l 11 ∧ (∀ i, i < 11 → lt l i) ∧ PB A W s s' true a w))

/-- What the region leaves. -/
def Post2 (A : Array Value) (W : World) (s s' : ByteArray) : Exit → Act → World → Prop
  | .normal, a, w => PB A W s s' true a w
  | _, _, _ => False

theorem Inv2.one {A : Array Value} {W : World} {n m : Nat} {Z Z' : Array Value} {s s' : ByteArray} {l : Array Bool} {T : Array Value} {w w' : World} (hl : l.size = 12) (h10 : ¬ lt l 10) (h11 : ¬ lt l 11) (hcl : Cl l) (h : PA A W n m Z Z' s s' l ⟨T, []⟩ w) (i : Nat) (hi : i < 10) (hno : ¬ lt l i) (v : Value) (e : Ext w w')
    (hv : Phi W n m Z Z' s s' w' i (some v)) (hf : ∀ g, v = ptr g → w.heap.size ≤ g) (h7 : i = 7 → lt l 6 := by intro q; cases q) (h6 : i = 6 → lt l 5 := by intro q; cases q) (h5 : i = 5 → lt l 4 := by intro q; cases q) : Inv2 A W n m Z Z' s s' (l.setIfInBounds i true) ⟨T.setIfInBounds (dst i) v, []⟩ w' := by
  refine ⟨by simp [hl], Or.inl ⟨fun h => ?_, fun h => ?_, hcl.step hl i hi h7 h6 h5, h.step hl i hi hno v e hv hf⟩⟩
  · rcases (lt_set (by omega)).1 h with h | h
    · omega
    · exact h10 h
  · rcases (lt_set (by omega)).1 h with h | h
    · omega
    · exact h11 h

/-- A call of a function of one argument, by its contract. -/
theorem wp_call_one {P : Program} {w : World} {o : Oper} {a : Act} {K : Act → World → Prop} {Q : Exit → Act → World → Prop}
    (f : FuncId) (x : Operand) (t : TypeId) (hop : o.op = Op.call { callee := Callee.value (.func f), args := #[x], argTypes := #[t] })
    (v : Value) (hx : a.eval x = v) (hf : (callFunc f #[v]).run P w = .ok (.enter f #[v]) w) (hK : Calls P f #[v] w fun e w' => ∃ u, e = .returned u ∧ K (a.put o.dst u) w') : Oper.wp P o a w K Q := by
  have he : a.eval (.func f) = .func (.func f) #[] #[] := rfl
  unfold Oper.wp
  have hrun : (execOp a.eval o).run P w = .ok (.enter f #[v]) w := by
    simp [execOp, hop, resolve, invoke, hx, he, Result.andThen, Deferred.ofValue, hf]
  rw [hrun, Oper.upon_enter]
  refine hK.mono ?_
  rintro e w' ⟨u, rfl, h⟩
  exact h

theorem enterRText (v : Value) (w : World) : (callFunc 10 #[v]).run Try.prog w = .ok (.enter 10 #[v]) w := by kernel_rfl

set_option maxHeartbeats 4000000 in
theorem region2 (A : Array Value) (W : World) (n m : Nat) (Z Z' : Array Value) (s s' : ByteArray) (hs : A.size = 92) (t0 : A[0]? = some (.int .i64 (n : Int))) (t1 : A[1]? = some (.int .i64 (m : Int)))
    (mk : ∀ W : World, (Instr.makeSlice 35 (.int .i64 (n : Int)) (.int .i64 (n : Int))).run Try.prog W = .ok (.slice (some ⟨W.heap.size, 0, none⟩) n n) (W.alloc (.cells Z 5)))
    (mk' : ∀ W : World, (Instr.makeSlice 35 (.int .i64 (m : Int)) (.int .i64 (m : Int))).run Try.prog W = .ok (.slice (some ⟨W.heap.size, 0, none⟩) m m) (W.alloc (.cells Z' 5)))
    (cv : Hd (∀ (w : World) (g : Nat), w.heap[g]? = some (.cells Z 5 (0, 0)) → (convert 35 9 (.slice (some ⟨g, 0, none⟩) n n)).run Try.prog w = .ok (.string s) w))
    (cv' : Hd (∀ (w : World) (g : Nat), w.heap[g]? = some (.cells Z' 5 (0, 0)) → (convert 35 9 (.slice (some ⟨g, 0, none⟩) m m)).run Try.prog w = .ok (.string s') w)) :
    Code.wp Try.prog ((Try.f4.body.bind (regionAt 2)).getD .skip) (Post2 A W s s') ⟨A, []⟩ W := by
  conv => arg 2; whnf
  refine wp_region_any (by kernel_rfl) (wpAny_inv (Inv2 A W n m Z Z' s s') ?_ ?_ _ _ _ _ ?_ ?_)
  · intro l a w hI i hi
    have hr := hi
    unfold Region.ready at hr
    rw [List.mem_filter] at hr
    obtain ⟨hr1, hr2⟩ := hr
    have h12 : i < 12 := by simpa using hr1
    clear hr1 hi
    rcases (show i = 0 ∨ i = 1 ∨ i = 2 ∨ i = 3 ∨ i = 4 ∨ i = 5 ∨ i = 6 ∨ i = 7 ∨ i = 8 ∨ i = 9 ∨ i = 10 ∨ i = 11 by omega) with rfl | rfl | rfl | rfl | rfl | rfl | rfl | rfl | rfl | rfl | rfl | rfl
    · simp [Region.binds] at hr2
      obtain ⟨hl, hPh⟩ := hI
      have hno := not_lt hr2
      rcases hPh with ⟨h10, h11, hcl, hP⟩ | ⟨_, _, hall, _⟩ | ⟨_, hall, _⟩
      case inr.inl => exact absurd (hall 0 (by decide)) hno
      case inr.inr => exact absurd (hall 0 (by decide)) hno
      obtain ⟨T, d⟩ := a
      obtain rfl : d = [] := hP.fr.d
      have hT : T.size = 92 := hP.fr.len
      have u0 : T[0] = .int .i64 (n : Int) := at_eq (A := T) (i := 0) ((hP.fr.keep 0 (by decide)).trans t0) (by omega)
      refine wpOp_some rfl rfl ?_
      go_simp
      exact Inv2.one hl h10 h11 hcl hP 0 (by decide) hno _ (Ext.refl _) rfl (fun g h => by cases h)
    · simp [Region.binds] at hr2
      obtain ⟨hl, hPh⟩ := hI
      have hno := not_lt hr2.1
      rcases hPh with ⟨h10, h11, hcl, hP⟩ | ⟨_, _, hall, _⟩ | ⟨_, hall, _⟩
      case inr.inl => exact absurd (hall 1 (by decide)) hno
      case inr.inr => exact absurd (hall 1 (by decide)) hno
      obtain ⟨T, d⟩ := a
      obtain rfl : d = [] := hP.fr.d
      have hT : T.size = 92 := hP.fr.len
      have u19 : T[19] = .int .i64 (n : Int) := at_eq (A := T) (i := 19) (hP.ph 0 (by decide) hr2.2) (by omega)
      refine wpOp_some rfl rfl ?_
      go_simp
      exact Inv2.one hl h10 h11 hcl hP 1 (by decide) hno _ (Ext.alloc _ _) ⟨_, rfl, heap_alloc_new _ _⟩ (fun g h => by cases h)
    · simp [Region.binds] at hr2
      obtain ⟨hl, hPh⟩ := hI
      have hno := not_lt hr2.1
      rcases hPh with ⟨h10, h11, hcl, hP⟩ | ⟨_, _, hall, _⟩ | ⟨_, hall, _⟩
      case inr.inl => exact absurd (hall 2 (by decide)) hno
      case inr.inr => exact absurd (hall 2 (by decide)) hno
      obtain ⟨T, d⟩ := a
      obtain rfl : d = [] := hP.fr.d
      have hT : T.size = 92 := hP.fr.len
      obtain ⟨g, hg, hrow⟩ := hP.ph 1 (by decide) hr2.2
      have u20 : T[20] = .slice (some ⟨g, 0, none⟩) n n := at_eq (A := T) (i := 20) hg (by omega)
      have hcv := unhide cv w g hrow
      refine wpOp_some rfl rfl ?_
      go_simp
      exact Inv2.one hl h10 h11 hcl hP 2 (by decide) hno _ (Ext.refl _) rfl (fun g h => by cases h)
    · simp [Region.binds] at hr2
      obtain ⟨hl, hPh⟩ := hI
      have hno := not_lt hr2.1
      rcases hPh with ⟨h10, h11, hcl, hP⟩ | ⟨_, _, hall, _⟩ | ⟨_, hall, _⟩
      case inr.inl => exact absurd (hall 3 (by decide)) hno
      case inr.inr => exact absurd (hall 3 (by decide)) hno
      obtain ⟨T, d⟩ := a
      obtain rfl : d = [] := hP.fr.d
      have hT : T.size = 92 := hP.fr.len
      have u21 : T[21] = .string s := at_eq (A := T) (i := 21) (hP.ph 2 (by decide) hr2.2) (by omega)
      refine wpOp_some rfl rfl ?_
      refine wp_call_one 10 (.tmp 21) 9 rfl (.string s) (by simp [Act.eval, hT, u21]) (enterRText _ _) (Calls.mono (rtext_any _ _) ?_)
      rintro e w1 ⟨rfl, hx⟩
      exact ⟨_, rfl, Inv2.one hl h10 h11 hcl hP 3 (by decide) hno _ hx rfl (fun g h => by cases h)⟩
    · simp [Region.binds] at hr2
      obtain ⟨hl, hPh⟩ := hI
      have hno := not_lt hr2
      rcases hPh with ⟨h10, h11, hcl, hP⟩ | ⟨_, _, hall, _⟩ | ⟨_, hall, _⟩
      case inr.inl => exact absurd (hall 4 (by decide)) hno
      case inr.inr => exact absurd (hall 4 (by decide)) hno
      obtain ⟨T, d⟩ := a
      obtain rfl : d = [] := hP.fr.d
      have hT : T.size = 92 := hP.fr.len
      have u1 : T[1] = .int .i64 (m : Int) := at_eq (A := T) (i := 1) ((hP.fr.keep 1 (by decide)).trans t1) (by omega)
      refine wpOp_some rfl rfl ?_
      go_simp
      exact Inv2.one hl h10 h11 hcl hP 4 (by decide) hno _ (Ext.refl _) rfl (fun g h => by cases h)
    · simp [Region.binds] at hr2
      obtain ⟨hl, hPh⟩ := hI
      have hno := not_lt hr2.1
      rcases hPh with ⟨h10, h11, hcl, hP⟩ | ⟨_, _, hall, _⟩ | ⟨_, hall, _⟩
      case inr.inl => exact absurd (hall 5 (by decide)) hno
      case inr.inr => exact absurd (hall 5 (by decide)) hno
      obtain ⟨T, d⟩ := a
      obtain rfl : d = [] := hP.fr.d
      have hT : T.size = 92 := hP.fr.len
      have u23 : T[23] = .int .i64 (m : Int) := at_eq (A := T) (i := 23) (hP.ph 4 (by decide) hr2.2) (by omega)
      refine wpOp_some rfl rfl ?_
      go_simp
      exact Inv2.one hl h10 h11 hcl hP 5 (by decide) hno _ (Ext.alloc _ _) ⟨_, rfl, heap_alloc_new _ _⟩ (fun g h => by cases h) (h5 := fun _ => hr2.2)
    · simp [Region.binds] at hr2
      obtain ⟨hl, hPh⟩ := hI
      have hno := not_lt hr2.1
      rcases hPh with ⟨h10, h11, hcl, hP⟩ | ⟨_, _, hall, _⟩ | ⟨_, hall, _⟩
      case inr.inl => exact absurd (hall 6 (by decide)) hno
      case inr.inr => exact absurd (hall 6 (by decide)) hno
      obtain ⟨T, d⟩ := a
      obtain rfl : d = [] := hP.fr.d
      have hT : T.size = 92 := hP.fr.len
      obtain ⟨g, hg, hrow⟩ := hP.ph 5 (by decide) hr2.2
      have u24 : T[24] = .slice (some ⟨g, 0, none⟩) m m := at_eq (A := T) (i := 24) hg (by omega)
      have hcv := unhide cv' w g hrow
      refine wpOp_some rfl rfl ?_
      go_simp
      exact Inv2.one hl h10 h11 hcl hP 6 (by decide) hno _ (Ext.refl _) rfl (fun g h => by cases h) (h6 := fun _ => hr2.2)
    · simp [Region.binds] at hr2
      obtain ⟨hl, hPh⟩ := hI
      have hno := not_lt hr2.1
      rcases hPh with ⟨h10, h11, hcl, hP⟩ | ⟨_, _, hall, _⟩ | ⟨_, hall, _⟩
      case inr.inl => exact absurd (hall 7 (by decide)) hno
      case inr.inr => exact absurd (hall 7 (by decide)) hno
      obtain ⟨T, d⟩ := a
      obtain rfl : d = [] := hP.fr.d
      have hT : T.size = 92 := hP.fr.len
      have u25 : T[25] = .string s' := at_eq (A := T) (i := 25) (hP.ph 6 (by decide) hr2.2.1) (by omega)
      refine wpOp_some rfl rfl ?_
      refine wp_call_one 10 (.tmp 25) 9 rfl (.string s') (by simp [Act.eval, hT, u25]) (enterRText _ _) (Calls.mono (rtext_any _ _) ?_)
      rintro e w1 ⟨rfl, hx⟩
      exact ⟨_, rfl, Inv2.one hl h10 h11 hcl hP 7 (by decide) hno _ hx rfl (fun g h => by cases h) (h7 := fun _ => hr2.2.1)⟩
    · simp [Region.binds] at hr2
      obtain ⟨hl, hPh⟩ := hI
      have hno := not_lt hr2
      rcases hPh with ⟨h10, h11, hcl, hP⟩ | ⟨_, _, hall, _⟩ | ⟨_, hall, _⟩
      case inr.inl => exact absurd (hall 8 (by decide)) hno
      case inr.inr => exact absurd (hall 8 (by decide)) hno
      obtain ⟨T, d⟩ := a
      obtain rfl : d = [] := hP.fr.d
      have hT : T.size = 92 := hP.fr.len
      have hle := hP.ext.le
      refine wpOp_some rfl rfl ?_
      go_simp
      exact Inv2.one hl h10 h11 hcl hP 8 (by decide) hno _ (Ext.alloc _ _) ⟨_, rfl, hle, heap_alloc_new _ _⟩ (fun g h => by injection h with h; injection h with h; injection h with h; exact Nat.le_of_eq h)
    · simp [Region.binds] at hr2
      obtain ⟨hl, hPh⟩ := hI
      have hno := not_lt hr2
      rcases hPh with ⟨h10, h11, hcl, hP⟩ | ⟨_, _, hall, _⟩ | ⟨_, hall, _⟩
      case inr.inl => exact absurd (hall 9 (by decide)) hno
      case inr.inr => exact absurd (hall 9 (by decide)) hno
      obtain ⟨T, d⟩ := a
      obtain rfl : d = [] := hP.fr.d
      have hT : T.size = 92 := hP.fr.len
      have hle := hP.ext.le
      refine wpOp_some rfl rfl ?_
      go_simp
      exact Inv2.one hl h10 h11 hcl hP 9 (by decide) hno _ (Ext.alloc _ _) ⟨_, rfl, hle, heap_alloc_new _ _⟩ (fun g h => by injection h with h; injection h with h; injection h with h; exact Nat.le_of_eq h)
    · simp [Region.binds] at hr2
      obtain ⟨hl, hPh⟩ := hI
      obtain ⟨q10, q8, q3, q7, q0, q1, q2, _, _, q9⟩ := hr2
      have hno := not_lt q10
      rcases hPh with ⟨h10, h11, hcl, hP⟩ | ⟨k, _⟩ | ⟨_, hall, _⟩
      case inr.inl => exact absurd k hno
      case inr.inr => exact absurd (hall 10 (by decide)) hno
      obtain ⟨T, d⟩ := a
      obtain rfl : d = [] := hP.fr.d
      have hT : T.size = 92 := hP.fr.len
      obtain ⟨g, hg, lo, hrow⟩ := hP.ph 8 (by decide) q8
      obtain ⟨g', hg', lo', hrow'⟩ := hP.ph 9 (by decide) q9
      have hne : g ≠ g' := hP.ne q8 q9 g g' hg hg'
      have h26 : T[26]? = some (tV s') := hP.ph 7 (by decide) q7
      have u7 : T[7] = ptr g := at_eq (A := T) (i := 7) hg (by omega)
      have u22 : T[22] = tV s := at_eq (A := T) (i := 22) (hP.ph 3 (by decide) q3) (by omega)
      have fN := Five.ofRow hrow
      have z0 := fN.c0
      have z1 := fN.c1
      have z2 := fN.c2
      have z3 := fN.c3
      have z4 := fN.c4
      have zf := fN.fz
      have fin : Inv2 A W n m Z Z' s s' (l.setIfInBounds 10 true) ⟨T, []⟩ (set5 w g 3 0 0 0 s none 0 0) := by
        refine ⟨by simp [hl], Or.inr (Or.inl ⟨(lt_set (by omega)).2 (Or.inl rfl), fun h => ?_, fun i hi => (lt_set (by omega)).2 (Or.inr ?_), ⟨hP.fr, set5_ext hP.ext g lo _ _ _ _ _ _ _ _, h26, g, g', hg, hg', hne, lo, lo', ?_, ?_⟩⟩)⟩
        · rcases (lt_set (by omega)).1 h with h | h
          · cases h
          · exact h11 h
        · have q6 := hcl.1 q7
          have q5 := hcl.2.1 q6
          have q4 := hcl.2.2 q5
          rcases (show i = 0 ∨ i = 1 ∨ i = 2 ∨ i = 3 ∨ i = 4 ∨ i = 5 ∨ i = 6 ∨ i = 7 ∨ i = 8 ∨ i = 9 by omega) with rfl | rfl | rfl | rfl | rfl | rfl | rfl | rfl | rfl | rfl <;> assumption
        · unfold set5
          rw [row_set (row_set (row_set (row_set (row_set hrow _ _) _ _) _ _) _ _) _ _]
          rfl
        · rw [set5_other _ _ _ (Ne.symm hne)]
          exact hrow'
      clear fN hP hg hg' hrow hrow' hne
      refine wpOp_some rfl rfl ?_
      go_simp
    · simp [Region.binds] at hr2
      obtain ⟨hl, hPh⟩ := hI
      have hno := not_lt hr2.1
      have hr := hr2.2
      rcases hPh with ⟨h10, _⟩ | ⟨k10, k11, hall, hP⟩ | ⟨k, _⟩
      case inl => exact absurd (by simp_all) h10
      case inr.inr => exact absurd k hno
      obtain ⟨T, d⟩ := a
      obtain rfl : d = [] := hP.fr.d
      have hT : T.size = 92 := hP.fr.len
      obtain ⟨g, g', hg, hg', hne, lo, lo', hrow, hrow'⟩ := hP.two
      replace hrow' : w.heap[g']? = some (rowOf 0 ⟨#[]⟩) := hrow'
      have u8 : T[8] = ptr g' := at_eq (A := T) (i := 8) hg' (by omega)
      have u26 : T[26] = tV s' := at_eq (A := T) (i := 26) hP.v26 (by omega)
      have fN := Five.ofRow hrow'
      have z0 := fN.c0
      have z1 := fN.c1
      have z2 := fN.c2
      have z3 := fN.c3
      have z4 := fN.c4
      have zf := fN.fz
      have fin : Inv2 A W n m Z Z' s s' (l.setIfInBounds 11 true) ⟨T, []⟩ (set5 w g' 3 0 0 0 s' none 0 0) := by
        refine ⟨by simp [hl], Or.inr (Or.inr ⟨(lt_set (by omega)).2 (Or.inl rfl), fun i hi => (lt_set (by omega)).2 (Or.inr ?_), ⟨hP.fr, set5_ext hP.ext g' lo' _ _ _ _ _ _ _ _, hP.v26, g, g', hg, hg', hne, lo, lo', ?_, ?_⟩⟩)⟩
        · rcases (show i < 10 ∨ i = 10 by omega) with h | rfl
          · exact hall i h
          · exact k10
        · rw [set5_other _ _ _ hne]
          exact hrow
        · unfold set5
          rw [row_set (row_set (row_set (row_set (row_set hrow' _ _) _ _) _ _) _ _) _ _]
          rfl
      clear fN hP hg hg' hrow hrow' hne
      refine wpOp_some rfl rfl ?_
      go_simp
  · intro l a w hI hz
    obtain ⟨hl, hPh⟩ := hI
    have up : ∀ i, i < 12 → (lt l i → False) → l[i]?.getD true = false := fun i hi hc => by
      have e : l[i]? = some l[i] := Array.getElem?_eq_getElem (by omega)
      rw [e]
      cases hb : l[i] with
      | false => rfl
      | true => exact absurd (by unfold lt; rw [e, hb]; rfl) hc
    rcases hPh with ⟨h10, h11, _, _⟩ | ⟨k10, k11, hall, hP⟩ | ⟨_, _, hP⟩
    · exfalso
      have r0 : l[0]?.getD false = true := Classical.byContradiction fun hc => by
        have hb := up 0 (by decide) hc
        refine absurd (?_ : 0 ∈ Region.ready _ _ l) (by rw [hz]; simp)
        unfold Region.ready
        rw [List.mem_filter]
        exact ⟨by simp, by simp [Region.binds, hb]⟩
      have r1 : l[1]?.getD false = true := Classical.byContradiction fun hc => by
        have hb := up 1 (by decide) hc
        refine absurd (?_ : 1 ∈ Region.ready _ _ l) (by rw [hz]; simp)
        unfold Region.ready
        rw [List.mem_filter]
        exact ⟨by simp, by simp [Region.binds, hb, r0]⟩
      have r2 : l[2]?.getD false = true := Classical.byContradiction fun hc => by
        have hb := up 2 (by decide) hc
        refine absurd (?_ : 2 ∈ Region.ready _ _ l) (by rw [hz]; simp)
        unfold Region.ready
        rw [List.mem_filter]
        exact ⟨by simp, by simp [Region.binds, hb, r1]⟩
      have r3 : l[3]?.getD false = true := Classical.byContradiction fun hc => by
        have hb := up 3 (by decide) hc
        refine absurd (?_ : 3 ∈ Region.ready _ _ l) (by rw [hz]; simp)
        unfold Region.ready
        rw [List.mem_filter]
        exact ⟨by simp, by simp [Region.binds, hb, r2]⟩
      have r4 : l[4]?.getD false = true := Classical.byContradiction fun hc => by
        have hb := up 4 (by decide) hc
        refine absurd (?_ : 4 ∈ Region.ready _ _ l) (by rw [hz]; simp)
        unfold Region.ready
        rw [List.mem_filter]
        exact ⟨by simp, by simp [Region.binds, hb]⟩
      have r5 : l[5]?.getD false = true := Classical.byContradiction fun hc => by
        have hb := up 5 (by decide) hc
        refine absurd (?_ : 5 ∈ Region.ready _ _ l) (by rw [hz]; simp)
        unfold Region.ready
        rw [List.mem_filter]
        exact ⟨by simp, by simp [Region.binds, hb, r4]⟩
      have r6 : l[6]?.getD false = true := Classical.byContradiction fun hc => by
        have hb := up 6 (by decide) hc
        refine absurd (?_ : 6 ∈ Region.ready _ _ l) (by rw [hz]; simp)
        unfold Region.ready
        rw [List.mem_filter]
        exact ⟨by simp, by simp [Region.binds, hb, r5]⟩
      have r7 : l[7]?.getD false = true := Classical.byContradiction fun hc => by
        have hb := up 7 (by decide) hc
        refine absurd (?_ : 7 ∈ Region.ready _ _ l) (by rw [hz]; simp)
        unfold Region.ready
        rw [List.mem_filter]
        exact ⟨by simp, by simp [Region.binds, hb, r6, r3]⟩
      have r8 : l[8]?.getD false = true := Classical.byContradiction fun hc => by
        have hb := up 8 (by decide) hc
        refine absurd (?_ : 8 ∈ Region.ready _ _ l) (by rw [hz]; simp)
        unfold Region.ready
        rw [List.mem_filter]
        exact ⟨by simp, by simp [Region.binds, hb]⟩
      have r9 : l[9]?.getD false = true := Classical.byContradiction fun hc => by
        have hb := up 9 (by decide) hc
        refine absurd (?_ : 9 ∈ Region.ready _ _ l) (by rw [hz]; simp)
        unfold Region.ready
        rw [List.mem_filter]
        exact ⟨by simp, by simp [Region.binds, hb]⟩
      have hb := up 10 (by decide) h10
      refine absurd (?_ : 10 ∈ Region.ready _ _ l) (by rw [hz]; simp)
      unfold Region.ready
      rw [List.mem_filter]
      exact ⟨by simp, by simp [Region.binds, hb, r0, r1, r2, r3, r4, r5, r6, r7, r8, r9]⟩
    · exfalso
      have r0 : l[0]?.getD false = true := hall 0 (by decide)
      have r1 : l[1]?.getD false = true := hall 1 (by decide)
      have r2 : l[2]?.getD false = true := hall 2 (by decide)
      have r3 : l[3]?.getD false = true := hall 3 (by decide)
      have r4 : l[4]?.getD false = true := hall 4 (by decide)
      have r5 : l[5]?.getD false = true := hall 5 (by decide)
      have r6 : l[6]?.getD false = true := hall 6 (by decide)
      have r7 : l[7]?.getD false = true := hall 7 (by decide)
      have r8 : l[8]?.getD false = true := hall 8 (by decide)
      have r9 : l[9]?.getD false = true := hall 9 (by decide)
      have r10 : l[10]?.getD false = true := k10
      have hb := up 11 (by decide) k11
      refine absurd (?_ : 11 ∈ Region.ready _ _ l) (by rw [hz]; simp)
      unfold Region.ready
      rw [List.mem_filter]
      exact ⟨by simp, by simp [Region.binds, hb, r0, r1, r2, r3, r4, r5, r6, r7, r8, r9, r10]⟩
    · exact hP
  · exact Nat.le_refl 12
  · show Inv2 A W n m Z Z' s s' (Array.replicate 12 false) ⟨A, []⟩ W.drew
    have no : ∀ i, ¬ lt (Array.replicate 12 false) i := fun i h => by
      unfold lt at h
      rw [Array.getElem?_replicate] at h
      split at h <;> cases h
    exact ⟨by simp, Or.inl ⟨no 10, no 11, ⟨fun h => absurd h (no 7), fun h => absurd h (no 6), fun h => absurd h (no 5)⟩, ⟨⟨rfl, hs, fun _ _ => rfl⟩, Ext.drew (Ext.refl _), fun i _ h => absurd h (no i), fun h => absurd h (no 8)⟩⟩⟩

end Go.Proofs.Ytbkncdjmodeabaa
