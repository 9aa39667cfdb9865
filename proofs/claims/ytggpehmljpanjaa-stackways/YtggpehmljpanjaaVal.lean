/- A value of the language as plain data; what it is that a world holds it; what stays so when the world grows. -/
import Derived.Below
import Derived.WalkKit
set_option linter.unusedSimpArgs false
namespace Go.Proofs.Ytggpehmljpanjaa
open Go.RowKit

/-- The walk's own set has no rule for a store of a number of two parts. -/
@[go_sem] theorem run_store_complex (P : Program) (w : World) (a : Addr) (m : Mode) (k : FloatKind) (x y : Nat) : (store a (.complex k x y) m).run P w = stored P w a (.complex k x y) m := run_store P w a _ m rfl

/-- A value as plain data: its kind, its number, the bits of its two parts, its text, its list. -/
structure PV where
  k : Int
  n : Int
  re : Nat
  im : Nat
  s : ByteArray
  l : List PV

/-- The bounds of what stands in a value's fields. -/
structure Bd (k n : Int) (re im : Nat) (s : ByteArray) (len cap : Nat) : Prop where
  bk1 : -9223372036854775808 ≤ k
  bk2 : k ≤ 9223372036854775807
  bn1 : -9223372036854775808 ≤ n
  bn2 : n ≤ 9223372036854775807
  bre : re < 18446744073709551616
  bim : im < 18446744073709551616
  bs : s.size ≤ 140737488355328
  b72 : len * 72 ≤ 140737488355328
  bc : len ≤ cap

theorem Bd.bl {k n : Int} {re im : Nat} {s : ByteArray} {len cap : Nat} (h : Bd k n re im s len cap) : len ≤ 140737488355328 := by
  have := h.b72
  omega

mutual
/-- The world holds the value p as the Go value v; the blocks in which its lists lie are F's. -/
def Rep (w : World) (F : Nat → Prop) : PV → Value → Prop
  | .mk k n re im s l, v => ∃ (a : Option Addr) (cap : Nat), v = .agg #[.int .i64 k, .int .i64 n, .complex .f64 re im, .string s, .slice a l.length cap] ∧ Bd k n re im s l.length cap ∧ RepL w F l a
/-- From the address a on the world holds the values of l, five cells each. -/
def RepL (w : World) (F : Nat → Prop) : List PV → Option Addr → Prop
  | [], _ => True
  | x :: xs, a => ∃ b off c0 c1 c2 c3 c4, a = some ⟨b, off, none⟩ ∧ F b ∧ Rep w F x (.agg #[c0, c1, c2, c3, c4]) ∧
      w.cell? ⟨b, off, none⟩ = some c0 ∧ w.cell? ⟨b, off + 1, none⟩ = some c1 ∧ w.cell? ⟨b, off + 2, none⟩ = some c2 ∧ w.cell? ⟨b, off + 3, none⟩ = some c3 ∧ w.cell? ⟨b, off + 4, none⟩ = some c4 ∧
      RepL w F xs (some ⟨b, off + 5, none⟩)
end

/-- One element's cells. -/
structure El (w : World) (F : Nat → Prop) (b o : Nat) (x : PV) (a : Option Addr) (cap : Nat) : Prop where
  f : F b
  c0 : w.cell? ⟨b, o, none⟩ = some (.int .i64 x.k)
  c1 : w.cell? ⟨b, o + 1, none⟩ = some (.int .i64 x.n)
  c2 : w.cell? ⟨b, o + 2, none⟩ = some (.complex .f64 x.re x.im)
  c3 : w.cell? ⟨b, o + 3, none⟩ = some (.string x.s)
  c4 : w.cell? ⟨b, o + 4, none⟩ = some (.slice a x.l.length cap)
  bd : Bd x.k x.n x.re x.im x.s x.l.length cap
  sub : RepL w F x.l a

theorem RepL.get {w : World} {F : Nat → Prop} : ∀ {l : List PV} {a : Option Addr}, RepL w F l a → ∀ (i : Nat) (x : PV), l[i]? = some x →
    ∃ b off a' cap', a = some ⟨b, off, none⟩ ∧ El w F b (off + i * 5) x a' cap' := by
  intro l
  induction l with
  | nil => intro a _ i x h; simp at h
  | cons y ys ih =>
    intro a h i x hx
    rw [RepL] at h
    obtain ⟨b, off, c0, c1, c2, c3, c4, rfl, hf, hr, h0, h1, h2, h3, h4, hrest⟩ := h
    cases i with
    | zero =>
      simp at hx
      subst hx
      cases y with
      | mk k n re im s l =>
        rw [Rep] at hr
        obtain ⟨a', cap', hv, hb, hl⟩ := hr
        injection hv with hv
        simp at hv
        obtain ⟨rfl, rfl, rfl, rfl, rfl⟩ := hv
        refine ⟨b, off, a', cap', rfl, ?_⟩
        have e : off + 0 * 5 = off := by omega
        rw [e]
        exact ⟨hf, h0, h1, h2, h3, h4, hb, hl⟩
    | succ j =>
      simp at hx
      obtain ⟨b', off', a', cap', he, hE⟩ := ih hrest j x hx
      simp at he
      obtain ⟨rfl, rfl⟩ := he
      refine ⟨b, off, a', cap', rfl, ?_⟩
      have e : off + (j + 1) * 5 = off + 5 + j * 5 := by omega
      rw [e]; exact hE

theorem RepL.cons {w : World} {F : Nat → Prop} {x : PV} {xs : List PV} {b off : Nat} {a : Option Addr} {cap : Nat} (h : El w F b off x a cap) (hs : RepL w F xs (some ⟨b, off + 5, none⟩)) : RepL w F (x :: xs) (some ⟨b, off, none⟩) := by
  cases x with
  | mk k n re im s l =>
    rw [RepL]
    refine ⟨b, off, _, _, _, _, _, rfl, h.f, ?_, h.c0, h.c1, h.c2, h.c3, h.c4, hs⟩
    rw [Rep]
    exact ⟨a, cap, rfl, h.bd, h.sub⟩

theorem El.rep {w : World} {F : Nat → Prop} {b o : Nat} {x : PV} {a : Option Addr} {cap : Nat} (h : El w F b o x a cap) : Rep w F x (.agg #[.int .i64 x.k, .int .i64 x.n, .complex .f64 x.re x.im, .string x.s, .slice a x.l.length cap]) := by
  cases x with
  | mk k n re im s l => rw [Rep]; exact ⟨a, cap, rfl, h.bd, h.sub⟩

theorem RepL.of {w : World} {F : Nat → Prop} {b : Nat} : ∀ {l : List PV} {off : Nat}, (∀ (i : Nat) (x : PV), l[i]? = some x → ∃ a' cap', El w F b (off + i * 5) x a' cap') → RepL w F l (some ⟨b, off, none⟩) := by
  intro l
  induction l with
  | nil => intro off _; simp [RepL]
  | cons y ys ih =>
    intro off h
    obtain ⟨a', cap', hE⟩ := h 0 y rfl
    refine RepL.cons (by simpa using hE) (ih fun i x hx => ?_)
    obtain ⟨a2, c2, h2⟩ := h (i + 1) x (by simpa using hx)
    refine ⟨a2, c2, ?_⟩
    have e : off + (i + 1) * 5 = off + 5 + i * 5 := by omega
    rw [e] at h2; exact h2

mutual
theorem Rep.to {w w' : World} {F F' : Nat → Prop} (h : ∀ b, F b → F' b ∧ w'.heap[b]? = w.heap[b]?) : ∀ (p : PV) (v : Value), Rep w F p v → Rep w' F' p v
  | .mk k n re im s l, v, hr => by
    rw [Rep] at hr ⊢
    obtain ⟨a, cap, hv, hb, hl⟩ := hr
    exact ⟨a, cap, hv, hb, RepL.to h l a hl⟩
theorem RepL.to {w w' : World} {F F' : Nat → Prop} (h : ∀ b, F b → F' b ∧ w'.heap[b]? = w.heap[b]?) : ∀ (l : List PV) (a : Option Addr), RepL w F l a → RepL w' F' l a
  | [], a, _ => by simp [RepL]
  | x :: xs, a, hr => by
    rw [RepL] at hr ⊢
    obtain ⟨b, off, c0, c1, c2, c3, c4, rfl, hf, hx, h0, h1, h2, h3, h4, hxs⟩ := hr
    have hc : ∀ o, w'.cell? ⟨b, o, none⟩ = w.cell? ⟨b, o, none⟩ := fun o => World.cell?_of_block (w := w) (h b hf).2
    exact ⟨b, off, c0, c1, c2, c3, c4, rfl, (h b hf).1, Rep.to h x _ hx, by rw [hc]; exact h0, by rw [hc]; exact h1, by rw [hc]; exact h2, by rw [hc]; exact h3, by rw [hc]; exact h4, RepL.to h xs _ hxs⟩
end

/-- The blocks that stand in a world. -/
def In (w : World) : Nat → Prop := fun b => b < w.heap.size

/-- Memory was made, nothing that stood there has turned. -/
def Ext (w w' : World) : Prop := Below w.heap.size w w'

theorem Ext.refl (w : World) : Ext w w := Below.refl _ _
theorem Ext.trans {a b c : World} (h : Ext a b) (k : Ext b c) : Ext a c := Below.trans h (Below.mono k h.size)
theorem Ext.alloc (w : World) (o : Obj) : Ext w (w.alloc o) := Below.alloc (Below.refl _ _) (Nat.le_refl _) o
theorem Ext.drew {a w : World} (h : Ext a w) : Ext a w.drew := Below.drew h
theorem Ext.le {w w' : World} (h : Ext w w') : w.heap.size ≤ w'.heap.size := h.size
theorem Ext.cell {w w' : World} (h : Ext w w') {a : Addr} {v : Value} (hc : w.cell? a = some v) : w'.cell? a = some v := by
  rw [Below.cell h (World.block_lt_of_cell? w a hc)]; exact hc
theorem cell_box (w : World) (cs : Array Value) (t : TypeId) (i : Nat) {v : Value} (hi : cs[i]? = some v) : (w.alloc (.cells cs t)).cell? ⟨w.heap.size, i, none⟩ = some v := by
  rw [cell_of_row _ _ i cs t (0, 0) (Go.heap_alloc_new w _)]
  exact hi
theorem Ext.box {w w' : World} {cs : Array Value} {t : TypeId} (h : Ext (w.alloc (.cells cs t)) w') (i : Nat) {v : Value} (hi : cs[i]? = some v) : w'.cell? ⟨w.heap.size, i, none⟩ = some v :=
  h.cell (cell_box w cs t i hi)
theorem RepL.ext {w w' : World} {l : List PV} {a : Option Addr} (hr : RepL w (In w) l a) (h : Ext w w') : RepL w' (In w') l a :=
  RepL.to (fun b hb => ⟨Nat.lt_of_lt_of_le hb h.size, h.block b hb⟩) l a hr
theorem Rep.ext {w w' : World} {p : PV} {v : Value} (hr : Rep w (In w) p v) (h : Ext w w') : Rep w' (In w') p v :=
  Rep.to (fun b hb => ⟨Nat.lt_of_lt_of_le hb h.size, h.block b hb⟩) p v hr

/-- What holds of a value if it holds of all that stand in its list, holds of all. -/
theorem PV.byList {M : PV → Prop} (h : ∀ k n re im s l, (∀ x ∈ l, M x) → M (.mk k n re im s l)) : ∀ p, M p := by
  have go : ∀ (m : Nat) (p : PV), SizeOf.sizeOf p ≤ m → M p := by
    intro m
    induction m with
    | zero =>
      intro p hp
      cases p with
      | mk k n re im s l => simp at hp
    | succ m ih =>
      intro p hp
      cases p with
      | mk k n re im s l =>
        refine h k n re im s l fun x hx => ih x ?_
        have := List.sizeOf_lt_of_mem hx
        simp at hp
        omega
  exact fun p => go _ p (Nat.le_refl _)

/-! ### What is told of a value -/

mutual
/-- How great a value is, d lists around it. -/
def sz : PV → Nat → Nat
  | .mk k _ _ _ s l, d => if k = 3 then min (1 + s.size) 1001 else if k = 4 then (if d = 24 then 1001 else szL l (d + 1) 1) else 1
def szL : List PV → Nat → Nat → Nat
  | [], _, n => n
  | x :: xs, d, n => if 1001 ≤ n + sz x d then 1001 else szL xs d (n + sz x d)
end

theorem szL_step {l : List PV} {j : Nat} {x : PV} (h : l[j]? = some x) (d acc : Nat) : szL (l.drop j) d acc = if 1001 ≤ acc + sz x d then 1001 else szL (l.drop (j + 1)) d (acc + sz x d) := by
  obtain ⟨hj, rfl⟩ := List.getElem?_eq_some_iff.1 h
  rw [List.drop_eq_getElem_cons hj, szL]

mutual
theorem sz_le : ∀ (p : PV) (d : Nat), sz p d ≤ 1001
  | .mk k n re im s l, d => by
    rw [sz]
    have := szL_le l (d + 1) 1 (by omega)
    split
    · omega
    · split
      · split
        · omega
        · exact this
      · omega
theorem szL_le : ∀ (l : List PV) (d n : Nat), n ≤ 1001 → szL l d n ≤ 1001
  | [], d, n, h => by rw [szL]; exact h
  | x :: xs, d, n, h => by
    rw [szL]
    split
    · omega
    · exact szL_le xs d _ (by omega)
end

end Go.Proofs.Ytggpehmljpanjaa
