/- A region that makes several rows in whatever order, builds a record of them and boxes it: what holds behind each set of operations that have come up. -/
import Derived.Test.YtjopfpchbakggaaGrPk
import Derived.Test.YtjopfpchbakggaaAnyInv
set_option linter.unusedSimpArgs false
set_option linter.unusedVariables false
set_option maxRecDepth 10000
namespace Go.Proofs.Ytjopfpchbakggaa
open Go.RowKit

theorem wpOp_want {P : Program} {ops : Array Oper} {Q : Exit → Act → World → Prop} {i : Nat} {o : Oper} {K : Act → World → Prop} {a : Act} {w : World} (hi : ops[i]? = some o) (hw : Region.wanted o (yielded ops a.tmps) = true) (h : o.wp P a w K Q) : wpOp P ops Q i K a w := by
  unfold wpOp
  rw [hi]
  simp only [hw, if_true]
  exact Or.inl h

theorem wp_call_xs {P : Program} {w : World} {o : Oper} {a : Act} {K : Act → World → Prop} {Q : Exit → Act → World → Prop}
    (f : FuncId) (xs : Array Operand) (ts : Array TypeId) (hop : o.op = Op.call { callee := Callee.value (.func f), args := xs, argTypes := ts })
    (vs : Array Value) (hx : xs.map a.eval = vs) (hf : (callFunc f vs).run P w = .ok (.enter f vs) w) (hK : Calls P f vs w fun e w' => ∃ u, e = .returned u ∧ K (a.put o.dst u) w') : o.wp P a w K Q := by
  have he : a.eval (.func f) = .func (.func f) #[] #[] := rfl
  unfold Oper.wp
  have hrun : (execOp a.eval o).run P w = .ok (.enter f vs) w := by
    simp [execOp, hop, resolve, invoke, hx, he, Result.andThen, Deferred.ofValue, hf]
  rw [hrun, Oper.upon_enter]
  refine hK.mono ?_
  rintro e w' ⟨u, rfl, h⟩
  exact h

def regionAt (n : Nat) : Code → Option Code
  | .region id ops b => if id = n then some (.region id ops b) else none
  | .seq a b => match regionAt n a with
    | some c => some c
    | none => regionAt n b
  | .loop c => regionAt n c
  | .block _ c => regionAt n c
  | .scope c => regionAt n c
  | .cond _ a b => match regionAt n a with
    | some c => some c
    | none => regionAt n b
  | _ => none

abbrev ltA (l : Array Bool) (i : Nat) : Prop := l[i]?.getD false = true
theorem ltA_set {l : Array Bool} {i j : Nat} (hi : i < l.size) : ltA (l.setIfInBounds i true) j ↔ j = i ∨ ltA l j := by
  unfold ltA
  rw [Array.getElem?_setIfInBounds]
  by_cases h : i = j
  · subst h
    simp [hi]
  · simp [h, Ne.symm h]
theorem not_ltA {l : Array Bool} {i : Nat} (h : l.getD i true = false) : ¬ ltA l i := by
  unfold ltA
  rw [Array.getD_eq_getD_getElem?] at h
  cases hl : l[i]? with
  | none => rw [hl] at h; cases h
  | some b => rw [hl] at h; cases b <;> simp_all
theorem atA {T : Array Value} {i : Nat} {v : Value} (h : T[i]? = some v) (hi : i < T.size) : T[i] = v := by
  rw [Array.getElem?_eq_getElem hi] at h
  exact Option.some.inj h

/-- Such a region: ib is the number of the operation that builds the record; behind it the one that boxes it and the one that sets the variable. -/
structure RSp where
  base : Nat
  M : Nat
  dst : Nat
  ib : Nat
  al : Nat → Bool
  phi : Nat → Value → Prop
  ok : Nat → Nat → Nat → Nat → World → Prop
  ln : Nat → Nat
  mk' : (Nat → Value) → Array Value
  bT : TypeId

abbrev slV (b n : Nat) : Value := .slice (some ⟨b, 0, none⟩) n n
abbrev ptV (b : Nat) : Value := .pointer (some ⟨b, 0, none⟩)

structure RGood (R : RSp) : Prop where
  dst : R.dst < R.base
  M : R.base + R.ib + 2 ≤ R.M
  ok : ∀ i b lo hi w w', Ext w w' → lo ≤ b → b < hi → hi ≤ w.heap.size → R.ok i b lo hi w → R.ok i b lo hi w'
  mk' : ∀ f g : Nat → Value, (∀ i, i < R.ib → R.al i = true → f i = g i) → R.mk' f = R.mk' g

/-- What is known of the rows, the record and the variable. -/
structure REx (R : RSp) (W : World) (l : Array Bool) (T : Array Value) (w : World) (bl lo hi : Nat → Nat) (C : Nat) : Prop where
  al : ∀ i, i < R.ib → R.al i = true → ltA l i → T[R.base + i]? = some (slV (bl i) (R.ln i)) ∧ R.ok i (bl i) (lo i) (hi i) w ∧ W.heap.size ≤ lo i ∧ lo i ≤ bl i ∧ bl i < hi i ∧ hi i ≤ w.heap.size
  ap : ∀ i j, i < R.ib → j < R.ib → R.al i = true → R.al j = true → i ≠ j → ltA l i → ltA l j → hi i ≤ lo j ∨ hi j ≤ lo i
  bd : ltA l R.ib → (∀ i, i < R.ib → R.al i = true → ltA l i) ∧ T[R.base + R.ib]? = some (.agg (R.mk' fun i => slV (bl i) (R.ln i)))
  bx : ltA l (R.ib + 1) → ltA l R.ib ∧ T[R.base + (R.ib + 1)]? = some (ptV C) ∧ w.heap[C]? = some (.cells (R.mk' fun i => slV (bl i) (R.ln i)) R.bT (0, 0)) ∧ (∀ i, i < R.ib → R.al i = true → hi i ≤ C) ∧ W.heap.size ≤ C
  as' : ltA l (R.ib + 2) → ltA l (R.ib + 1) ∧ T[R.dst]? = some (ptV C)

structure RInv (R : RSp) (A : Array Value) (W : World) (l : Array Bool) (T : Array Value) (w : World) : Prop where
  sz : l.size = R.ib + 3
  len : T.size = R.M
  keep : ∀ j, (j < R.base ∨ R.base + R.ib + 2 ≤ j) → j ≠ R.dst → T[j]? = A[j]?
  ext : Ext W w
  cs : ∀ i, i < R.ib → R.al i = false → ltA l i → ∃ v, T[R.base + i]? = some v ∧ R.phi i v
  ex : ∃ (bl lo hi : Nat → Nat) (C : Nat), REx R W l T w bl lo hi C

theorem T_other {T : Array Value} {i j : Nat} {v : Value} (h : i ≠ j) : (T.setIfInBounds i v)[j]? = T[j]? := by rw [Array.getElem?_setIfInBounds, if_neg h]
theorem T_self {T : Array Value} {i : Nat} {v : Value} (h : i < T.size) : (T.setIfInBounds i v)[i]? = some v := by rw [Array.getElem?_setIfInBounds, if_pos rfl, if_pos h]

section
variable {R : RSp} {A : Array Value} {W : World} {l : Array Bool} {T : Array Value} {w : World}
theorem RInv.const (h : RInv R A W l T w) (G : RGood R) (i : Nat) (hi : i < R.ib) (ha : R.al i = false) (v : Value) (hv : R.phi i v) : RInv R A W (l.setIfInBounds i true) (T.setIfInBounds (R.base + i) v) w := by
  have hM := G.M
  have hD := G.dst
  have hiz : i < l.size := by rw [h.sz]; omega
  refine ⟨by rw [Array.size_setIfInBounds]; exact h.sz, by rw [Array.size_setIfInBounds]; exact h.len, fun j hj hd => by rw [T_other (by omega)]; exact h.keep j hj hd, h.ext, fun j hj haj hlt => ?_, ?_⟩
  · by_cases e : j = i
    · subst e
      exact ⟨v, T_self (by rw [h.len]; omega), hv⟩
    · rw [T_other (by omega)]
      exact h.cs j hj haj (((ltA_set hiz).1 hlt).resolve_left e)
  · obtain ⟨bl, lo, hi', C, E⟩ := h.ex
    have dn : ∀ j, j ≠ i → ltA (l.setIfInBounds i true) j → ltA l j := fun j e hlt => ((ltA_set hiz).1 hlt).resolve_left e
    have up : ∀ j, ltA l j → ltA (l.setIfInBounds i true) j := fun j h => (ltA_set hiz).2 (Or.inr h)
    have na : ∀ j, R.al j = true → j ≠ i := fun j h e => by rw [e, ha] at h; cases h
    refine ⟨bl, lo, hi', C, ?_, ?_, ?_, ?_, ?_⟩
    · intro j hj haj hlt
      rw [T_other (by have := na j haj; omega)]
      exact E.al j hj haj (dn j (na j haj) hlt)
    · intro j k hj hk haj hak hne h1 h2
      exact E.ap j k hj hk haj hak hne (dn j (na j haj) h1) (dn k (na k hak) h2)
    · intro h1
      have h2 := E.bd (dn _ (by omega) h1)
      exact ⟨fun j hj haj => up j (h2.1 j hj haj), by rw [T_other (by omega)]; exact h2.2⟩
    · intro h1
      have h2 := E.bx (dn _ (by omega) h1)
      exact ⟨up _ h2.1, by rw [T_other (by omega)]; exact h2.2.1, h2.2.2⟩
    · intro h1
      have h2 := E.as' (dn _ (by omega) h1)
      exact ⟨up _ h2.1, by rw [T_other (by omega)]; exact h2.2⟩

theorem RInv.alloc (h : RInv R A W l T w) (G : RGood R) (i : Nat) (hi : i < R.ib) (ha : R.al i = true) (hnd : ¬ ltA l i) (b lo' hi' : Nat) (w' : World) (he : Ext w w') (h1 : w.heap.size ≤ lo') (h2 : lo' ≤ b) (h3 : b < hi') (h4 : hi' ≤ w'.heap.size) (hok : R.ok i b lo' hi' w') :
    RInv R A W (l.setIfInBounds i true) (T.setIfInBounds (R.base + i) (slV b (R.ln i))) w' := by
  have hM := G.M
  have hD := G.dst
  have hiz : i < l.size := by rw [h.sz]; omega
  refine ⟨by rw [Array.size_setIfInBounds]; exact h.sz, by rw [Array.size_setIfInBounds]; exact h.len, fun j hj hd => by rw [T_other (by omega)]; exact h.keep j hj hd, h.ext.trans he, fun j hj haj hlt => ?_, ?_⟩
  · have e : j ≠ i := fun e => by rw [e, ha] at haj; cases haj
    rw [T_other (by omega)]
    exact h.cs j hj haj (((ltA_set hiz).1 hlt).resolve_left e)
  · obtain ⟨bl, lo, hh, C, E⟩ := h.ex
    have dn : ∀ j, j ≠ i → ltA (l.setIfInBounds i true) j → ltA l j := fun j e hlt => ((ltA_set hiz).1 hlt).resolve_left e
    have nb : ¬ ltA l R.ib := fun e => hnd ((E.bd e).1 i hi ha)
    have nx : ¬ ltA l (R.ib + 1) := fun e => nb (E.bx e).1
    have ns : ¬ ltA l (R.ib + 2) := fun e => nx (E.as' e).1
    have hs := h.ext.size
    have hsw := he.size
    refine ⟨fun j => if j = i then b else bl j, fun j => if j = i then lo' else lo j, fun j => if j = i then hi' else hh j, C, ?_, ?_, fun e => absurd (dn _ (by omega) e) nb, fun e => absurd (dn _ (by omega) e) nx, fun e => absurd (dn _ (by omega) e) ns⟩
    · intro j hj haj hlt
      by_cases e : j = i
      · subst e
        rw [if_pos rfl, if_pos rfl, if_pos rfl]
        exact ⟨T_self (by rw [h.len]; omega), hok, by omega, h2, h3, h4⟩
      · rw [if_neg e, if_neg e, if_neg e, T_other (by omega)]
        obtain ⟨q1, q2, q3, q4, q5, q6⟩ := E.al j hj haj (dn j e hlt)
        exact ⟨q1, G.ok j _ _ _ w w' he q4 q5 q6 q2, q3, q4, q5, by omega⟩
    · intro j k hj hk haj hak hne hl1 hl2
      by_cases e1 : j = i
      · subst e1
        rw [if_pos rfl, if_pos rfl, if_neg (Ne.symm hne), if_neg (Ne.symm hne)]
        have := (E.al k hk hak (dn k (Ne.symm hne) hl2)).2.2.2.2.2
        omega
      · by_cases e2 : k = i
        · subst e2
          rw [if_neg e1, if_pos rfl, if_pos rfl, if_neg e1]
          have := (E.al j hj haj (dn j e1 hl1)).2.2.2.2.2
          omega
        · rw [if_neg e1, if_neg e2, if_neg e2, if_neg e1]
          exact E.ap j k hj hk haj hak hne (dn j e1 hl1) (dn k e2 hl2)

theorem RInv.build (h : RInv R A W l T w) (G : RGood R) (hal : ∀ i, i < R.ib → R.al i = true → ltA l i) (hnd : ¬ ltA l R.ib) (v : Value) (hv : ∀ bl : Nat → Nat, (∀ i, i < R.ib → R.al i = true → T[R.base + i]? = some (slV (bl i) (R.ln i))) → v = .agg (R.mk' fun i => slV (bl i) (R.ln i))) :
    RInv R A W (l.setIfInBounds R.ib true) (T.setIfInBounds (R.base + R.ib) v) w := by
  have hM := G.M
  have hD := G.dst
  have hiz : R.ib < l.size := by rw [h.sz]; omega
  have dn : ∀ j, j ≠ R.ib → ltA (l.setIfInBounds R.ib true) j → ltA l j := fun j e hlt => ((ltA_set hiz).1 hlt).resolve_left e
  have up : ∀ j, ltA l j → ltA (l.setIfInBounds R.ib true) j := fun j h => (ltA_set hiz).2 (Or.inr h)
  refine ⟨by rw [Array.size_setIfInBounds]; exact h.sz, by rw [Array.size_setIfInBounds]; exact h.len, fun j hj hd => by rw [T_other (by omega)]; exact h.keep j hj hd, h.ext, fun j hj haj hlt => ?_, ?_⟩
  · rw [T_other (by omega)]
    exact h.cs j hj haj (dn j (by omega) hlt)
  · obtain ⟨bl, lo, hh, C, E⟩ := h.ex
    have nx : ¬ ltA l (R.ib + 1) := fun e => hnd (E.bx e).1
    have ns : ¬ ltA l (R.ib + 2) := fun e => nx (E.as' e).1
    refine ⟨bl, lo, hh, C, ?_, ?_, fun _ => ⟨fun j hj haj => up j (hal j hj haj), ?_⟩, fun e => absurd (dn _ (by omega) e) nx, fun e => absurd (dn _ (by omega) e) ns⟩
    · intro j hj haj hlt
      rw [T_other (by omega)]
      exact E.al j hj haj (dn j (by omega) hlt)
    · intro j k hj hk haj hak hne hl1 hl2
      exact E.ap j k hj hk haj hak hne (dn j (by omega) hl1) (dn k (by omega) hl2)
    · rw [T_self (by rw [h.len]; omega), hv bl (fun i hi ha => (E.al i hi ha (hal i hi ha)).1)]

theorem RInv.box (h : RInv R A W l T w) (G : RGood R) (hb : ltA l R.ib) (hnd : ¬ ltA l (R.ib + 1)) : ∃ vs, T[R.base + R.ib]? = some (.agg vs) ∧
    (∃ bl : Nat → Nat, vs = R.mk' fun i => slV (bl i) (R.ln i)) ∧
    RInv R A W (l.setIfInBounds (R.ib + 1) true) (T.setIfInBounds (R.base + (R.ib + 1)) (ptV w.heap.size)) (w.alloc (.cells vs R.bT)) := by
  have hM := G.M
  have hD := G.dst
  have hiz : R.ib + 1 < l.size := by rw [h.sz]; omega
  have dn : ∀ j, j ≠ R.ib + 1 → ltA (l.setIfInBounds (R.ib + 1) true) j → ltA l j := fun j e hlt => ((ltA_set hiz).1 hlt).resolve_left e
  have up : ∀ j, ltA l j → ltA (l.setIfInBounds (R.ib + 1) true) j := fun j h => (ltA_set hiz).2 (Or.inr h)
  obtain ⟨bl, lo, hh, C, E⟩ := h.ex
  have hbd := E.bd hb
  have ns : ¬ ltA l (R.ib + 2) := fun e => hnd (E.as' e).1
  have he := Ext.alloc w (.cells (R.mk' fun i => slV (bl i) (R.ln i)) R.bT)
  have hsw := he.size
  refine ⟨_, hbd.2, ⟨bl, rfl⟩, by rw [Array.size_setIfInBounds]; exact h.sz, by rw [Array.size_setIfInBounds]; exact h.len, fun j hj hd => by rw [T_other (by omega)]; exact h.keep j hj hd, h.ext.trans he, fun j hj haj hlt => ?_, ?_⟩
  · rw [T_other (by omega)]
    exact h.cs j hj haj (dn j (by omega) hlt)
  · refine ⟨bl, lo, hh, w.heap.size, ?_, ?_, fun e => ?_, fun _ => ⟨up _ hb, T_self (by rw [h.len]; omega), Go.heap_alloc_new w _, fun i hi ha => (E.al i hi ha (hbd.1 i hi ha)).2.2.2.2.2, h.ext.size⟩, fun e => absurd (dn _ (by omega) e) ns⟩
    · intro j hj haj hlt
      rw [T_other (by omega)]
      obtain ⟨q1, q2, q3, q4, q5, q6⟩ := E.al j hj haj (dn j (by omega) hlt)
      exact ⟨q1, G.ok j _ _ _ w _ he q4 q5 q6 q2, q3, q4, q5, by omega⟩
    · intro j k hj hk haj hak hne hl1 hl2
      exact E.ap j k hj hk haj hak hne (dn j (by omega) hl1) (dn k (by omega) hl2)
    · exact ⟨fun j hj haj => up j (hbd.1 j hj haj), by rw [T_other (by omega)]; exact hbd.2⟩

theorem RInv.last (h : RInv R A W l T w) (G : RGood R) (hb : ltA l (R.ib + 1)) : ∃ C, T[R.base + (R.ib + 1)]? = some (ptV C) ∧ RInv R A W (l.setIfInBounds (R.ib + 2) true) (T.setIfInBounds R.dst (ptV C)) w := by
  have hM := G.M
  have hD := G.dst
  have hiz : R.ib + 2 < l.size := by rw [h.sz]; omega
  have dn : ∀ j, j ≠ R.ib + 2 → ltA (l.setIfInBounds (R.ib + 2) true) j → ltA l j := fun j e hlt => ((ltA_set hiz).1 hlt).resolve_left e
  have up : ∀ j, ltA l j → ltA (l.setIfInBounds (R.ib + 2) true) j := fun j h => (ltA_set hiz).2 (Or.inr h)
  obtain ⟨bl, lo, hh, C, E⟩ := h.ex
  have hbx := E.bx hb
  refine ⟨C, hbx.2.1, by rw [Array.size_setIfInBounds]; exact h.sz, by rw [Array.size_setIfInBounds]; exact h.len, fun j hj hd => by rw [T_other (Ne.symm hd)]; exact h.keep j hj hd, h.ext, fun j hj haj hlt => ?_, ?_⟩
  · rw [T_other (by omega)]
    exact h.cs j hj haj (dn j (by omega) hlt)
  · refine ⟨bl, lo, hh, C, ?_, ?_, fun e => ?_, fun _ => ⟨up _ hbx.1, by rw [T_other (by omega)]; exact hbx.2.1, hbx.2.2⟩, fun _ => ⟨up _ hb, T_self (by rw [h.len]; omega)⟩⟩
    · intro j hj haj hlt
      rw [T_other (by omega)]
      exact E.al j hj haj (dn j (by omega) hlt)
    · intro j k hj hk haj hak hne hl1 hl2
      exact E.ap j k hj hk haj hak hne (dn j (by omega) hl1) (dn k (by omega) hl2)
    · have h2 := E.bd (dn _ (by omega) e)
      exact ⟨fun j hj haj => up j (h2.1 j hj haj), by rw [T_other (by omega)]; exact h2.2⟩

theorem RInv.start (hA : A.size = R.M) (w : World) (he : Ext W w) : RInv R A W (Array.replicate (R.ib + 3) false) A w := by
  have no : ∀ i, ¬ ltA (Array.replicate (R.ib + 3) false) i := fun i h => by
    unfold ltA at h
    rw [Array.getElem?_replicate] at h
    split at h <;> cases h
  exact ⟨by simp, hA, fun _ _ _ => rfl, he, fun i _ _ h => absurd h (no i), fun _ => 0, fun _ => 0, fun _ => 0, 0, fun i _ _ h => absurd h (no i), fun i j _ _ _ _ _ h => absurd h (no i), fun h => absurd h (no _), fun h => absurd h (no _), fun h => absurd h (no _)⟩
end

/-- What the region leaves. -/
structure RDone (R : RSp) (W w : World) (bl lo hi : Nat → Nat) (C : Nat) : Prop where
  ext : Ext W w
  al : ∀ i, i < R.ib → R.al i = true → R.ok i (bl i) (lo i) (hi i) w ∧ W.heap.size ≤ lo i ∧ lo i ≤ bl i ∧ bl i < hi i ∧ hi i ≤ w.heap.size ∧ hi i ≤ C
  ap : ∀ i j, i < R.ib → j < R.ib → R.al i = true → R.al j = true → i ≠ j → hi i ≤ lo j ∨ hi j ≤ lo i
  bx : w.heap[C]? = some (.cells (R.mk' fun i => slV (bl i) (R.ln i)) R.bT (0, 0))
  lo : W.heap.size ≤ C
def RPost (R : RSp) (A : Array Value) (W : World) : Exit → Act → World → Prop
  | .normal, a, w => a.defers = [] ∧ ∃ l, RInv R A W l a.tmps w ∧ ∀ i, i < R.ib + 3 → ltA l i
  | _, _, _ => False

/-- So many slots from base on are set. -/
def setAll (base : Nat) (A : Array Value) (u : Nat → Value) : Nat → Array Value
  | 0 => A
  | m + 1 => (setAll base A u m).setIfInBounds (base + m) (u m)
theorem setAll_size (base : Nat) (A : Array Value) (u : Nat → Value) : ∀ m, (setAll base A u m).size = A.size
  | 0 => rfl
  | m + 1 => by rw [setAll, Array.size_setIfInBounds, setAll_size]
theorem setAll_at (base : Nat) (A : Array Value) (u : Nat → Value) : ∀ m j, (setAll base A u m)[j]? = if base ≤ j ∧ j < base + m ∧ j < A.size then some (u (j - base)) else A[j]? := by
  intro m
  induction m with
  | zero => intro j; rw [setAll, if_neg (by omega)]
  | succ m ih =>
    intro j
    rw [setAll, Array.getElem?_setIfInBounds, ih j, setAll_size]
    by_cases h : base + m = j
    · rw [if_pos h]
      by_cases h2 : base + m < A.size
      · rw [if_pos h2, if_pos (by omega), show j - base = m by omega]
      · rw [if_neg h2, if_neg (by omega)]
        exact (Array.getElem?_eq_none (by omega)).symm
    · rw [if_neg h]
      by_cases h2 : base ≤ j ∧ j < base + m ∧ j < A.size
      · rw [if_pos h2, if_pos (by omega)]
      · rw [if_neg h2, if_neg (by omega)]

theorem region_abs {P : Program} {c : Code} {Q : Exit → Act → World → Prop} {A : Array Value} {W : World} (R : RSp) (G : RGood R) (hs : A.size = R.M) (h : ∀ B, B = A → Code.wp P c (RPost R B W) ⟨B, []⟩ W)
    (hq : ∀ (u : Nat → Value) (w' : World) (bl lo hi : Nat → Nat) (C : Nat), RDone R W w' bl lo hi C → Q .normal ⟨(setAll R.base A u (R.ib + 2)).setIfInBounds R.dst (ptV C), []⟩ w') : Code.wp P c Q ⟨A, []⟩ W := by
  refine Code.wp_mono ?_ (h A rfl)
  intro e a w' hp
  cases e with
  | normal =>
    obtain ⟨hd, l, hI, hall⟩ := hp
    obtain ⟨T, d⟩ := a
    obtain rfl : d = [] := hd
    have hT : T.size = R.M := hI.len
    have hM := G.M
    have hD := G.dst
    obtain ⟨bl, lo, hh, C, E⟩ := hI.ex
    have e : T = (setAll R.base A (fun i => T[R.base + i]?.getD undef) (R.ib + 2)).setIfInBounds R.dst (ptV C) := by
      apply Array.ext_getElem?
      intro j
      rw [Array.getElem?_setIfInBounds]
      by_cases hd : R.dst = j
      · subst hd
        rw [if_pos rfl, if_pos (by rw [setAll_size, hs]; omega)]
        exact (E.as' (hall _ (by omega))).2
      · rw [if_neg hd, setAll_at]
        by_cases hj : R.base ≤ j ∧ j < R.base + (R.ib + 2) ∧ j < A.size
        · rw [if_pos hj]
          show _ = some (T[R.base + (j - R.base)]?.getD undef)
          rw [show R.base + (j - R.base) = j by omega, Array.getElem?_eq_getElem (by omega)]
          rfl
        · rw [if_neg hj]
          by_cases hj2 : j < R.base ∨ R.base + R.ib + 2 ≤ j
          · exact hI.keep j hj2 (Ne.symm hd)
          · exfalso; omega
    have hbx := E.bx (hall _ (by omega))
    have := hq (fun i => T[R.base + i]?.getD undef) w' bl lo hh C ⟨hI.ext, fun i hi ha => by
      obtain ⟨q1, q2, q3, q4, q5, q6⟩ := E.al i hi ha (hall i (by omega))
      exact ⟨q2, q3, q4, q5, q6, hbx.2.2.2.1 i hi ha⟩, fun i j hi hj hai haj hne => E.ap i j hi hj hai haj hne (hall i (by omega)) (hall j (by omega)), hbx.2.2.1, hbx.2.2.2.2⟩
    rw [← e] at this
    exact this
  | _ => exact hp.elim

end Go.Proofs.Ytjopfpchbakggaa
