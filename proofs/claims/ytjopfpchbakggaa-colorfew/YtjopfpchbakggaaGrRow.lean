/- What it is that a world holds a list of numbers or a graph; rows of one sort in a block of their own. -/
import Derived.Test.YtjopfpchbakggaaGrLaw
import Derived.Laws.CopyOwn
set_option linter.unusedSimpArgs false
set_option linter.unusedVariables false
set_option maxRecDepth 10000
namespace Go.Proofs.Ytjopfpchbakggaa
open Go.RowKit

def In (w : World) (b : Nat) : Prop := b < w.heap.size

/-- From the address a on the world holds the numbers of l. -/
def RepI (w : World) (F : Nat → Prop) (a : Option Addr) (l : List Int) : Prop := l = [] ∨ ∃ b o, a = some ⟨b, o, none⟩ ∧ F b ∧ ∀ (j : Nat) (x : Int), l[j]? = some x → w.cell? ⟨b, o + j, none⟩ = some (.int .i64 x)
theorem RepI.to {w w' : World} {F F' : Nat → Prop} (h : ∀ b, F b → F' b ∧ w'.heap[b]? = w.heap[b]?) {l : List Int} {a : Option Addr} (hr : RepI w F a l) : RepI w' F' a l := by
  rcases hr with hr | ⟨b, o, rfl, hf, hc⟩
  · exact Or.inl hr
  · exact Or.inr ⟨b, o, rfl, (h b hf).1, fun j x hx => by rw [World.cell?_of_block (w := w) (h b hf).2]; exact hc j x hx⟩
theorem RepI.ext {w w' : World} {l : List Int} {a : Option Addr} (hr : RepI w (In w) a l) (h : Ext w w') : RepI w' (In w') a l :=
  hr.to fun b hb => ⟨Nat.lt_of_lt_of_le hb h.size, h.block b hb⟩
theorem RepI.at {w : World} {F : Nat → Prop} {l : List Int} {a : Option Addr} (hr : RepI w F a l) {j : Nat} {x : Int} (h : l[j]? = some x) :
    ∃ b o, a = some ⟨b, o, none⟩ ∧ F b ∧ w.cell? ⟨b, o + j, none⟩ = some (.int .i64 x) := by
  rcases hr with rfl | ⟨b, o, rfl, hf, hc⟩
  · simp at h
  · exact ⟨b, o, rfl, hf, hc j x h⟩

/-- From the address a on the world holds the lists of g. -/
def RepG (w : World) (F : Nat → Prop) (a : Option Addr) (g : List (List Int)) : Prop := g = [] ∨ ∃ b o, a = some ⟨b, o, none⟩ ∧ F b ∧ ∀ (j : Nat) (l : List Int), g[j]? = some l → ∃ ia ic, w.cell? ⟨b, o + j, none⟩ = some (.slice ia l.length ic) ∧ RepI w F ia l
theorem RepG.to {w w' : World} {F F' : Nat → Prop} (h : ∀ b, F b → F' b ∧ w'.heap[b]? = w.heap[b]?) {g : List (List Int)} {a : Option Addr} (hr : RepG w F a g) : RepG w' F' a g := by
  rcases hr with hr | ⟨b, o, rfl, hf, hc⟩
  · exact Or.inl hr
  · refine Or.inr ⟨b, o, rfl, (h b hf).1, fun j l hl => ?_⟩
    obtain ⟨ia, ic, h1, h2⟩ := hc j l hl
    exact ⟨ia, ic, by rw [World.cell?_of_block (w := w) (h b hf).2]; exact h1, h2.to h⟩
theorem RepG.ext {w w' : World} {g : List (List Int)} {a : Option Addr} (hr : RepG w (In w) a g) (h : Ext w w') : RepG w' (In w') a g :=
  hr.to fun b hb => ⟨Nat.lt_of_lt_of_le hb h.size, h.block b hb⟩
theorem RepG.at {w : World} {F : Nat → Prop} {g : List (List Int)} {a : Option Addr} (hr : RepG w F a g) {j : Nat} {l : List Int} (h : g[j]? = some l) :
    ∃ b o ia ic, a = some ⟨b, o, none⟩ ∧ F b ∧ w.cell? ⟨b, o + j, none⟩ = some (.slice ia l.length ic) ∧ RepI w F ia l := by
  rcases hr with rfl | ⟨b, o, rfl, hf, hc⟩
  · simp at h
  · obtain ⟨ia, ic, h1, h2⟩ := hc j l h
    exact ⟨b, o, ia, ic, rfl, hf, h1, h2⟩

/-- A graph that isn't too great. -/
def Few (g : List (List Int)) : Prop := g.length ≤ 1000000 ∧ ∀ l ∈ g, l.length ≤ 1000000

/-- A block that holds just these cells. -/
abbrev Row (w : World) (b : Nat) (t : TypeId) (vs : List Value) : Prop := w.heap[b]? = some (.cells vs.toArray t (0, 0))
abbrev bsV (l : List Bool) : List Value := l.map (fun b => Value.bool b)
abbrev os (l : List (Option Nat)) : List Value := l.map (fun x => Value.int .i64 (oI x))
theorem Row.cell {w : World} {b : Nat} {t : TypeId} {vs : List Value} (h : Row w b t vs) (i : Nat) {v : Value} (hi : vs[i]? = some v) : w.cell? ⟨b, i, none⟩ = some v := k_rowC h i (by simpa using hi)
theorem Row.set {w : World} {b : Nat} {t : TypeId} {vs : List Value} (h : Row w b t vs) (i : Nat) (v : Value) : Row (w.setCell ⟨b, i, none⟩ v) b t (vs.set i v) := by
  have := k_row_set h i v
  rw [List.setIfInBounds_toArray] at this
  exact this
theorem Row.other {w : World} {b c : Nat} {t : TypeId} {vs : List Value} (h : Row w b t vs) (hne : b ≠ c) (i : Nat) (v : Value) : Row (w.setCell ⟨c, i, none⟩ v) b t vs := k_row_other h hne i v
theorem Row.on {w w' : World} {b : Nat} {t : TypeId} {vs : List Value} (h : Row w b t vs) (k : Ext w w') : Row w' b t vs := (k.block b (k_lt h)).trans h
theorem Row.new (w : World) (vs : List Value) (t : TypeId) : Row (w.alloc (.cells vs.toArray t)) w.heap.size t vs := Go.heap_alloc_new w _
theorem Row.grown {w w' : World} {o : Option Nat} {b : Nat} {t : TypeId} {vs : List Value} (h : Row w b t vs) (k : w.grownBy w' o) (hne : some b ≠ o) : Row w' b t vs := (k.block b (k_lt h) hne).trans h
theorem ns_at {l : List Nat} {j x : Nat} (h : l[j]? = some x) : (ns l)[j]? = some (.int .i64 (x : Int)) := by simp [ns, h]
theorem os_at {l : List (Option Nat)} {j : Nat} {x : Option Nat} (h : l[j]? = some x) : (os l)[j]? = some (.int .i64 (oI x)) := by simp [os, h]
theorem bs_at {l : List Bool} {j : Nat} {x : Bool} (h : l[j]? = some x) : (bsV l)[j]? = some (.bool x) := by simp [bsV, h]
theorem ns_set (l : List Nat) (j x : Nat) : (ns l).set j (.int .i64 (x : Int)) = ns (l.set j x) := by simp [ns, List.map_set]
theorem os_set (l : List (Option Nat)) (j : Nat) (x : Option Nat) : (os l).set j (.int .i64 (oI x)) = os (l.set j x) := by simp [os, List.map_set]
theorem bs_set (l : List Bool) (j : Nat) (x : Bool) : (bsV l).set j (.bool x) = bsV (l.set j x) := by simp [bsV, List.map_set]

/-- make of numbers that are nought, of false, of lists that are nil. -/
theorem make_nats (n : Nat) (hn : n ≤ 1000000) (w : World) : (Instr.makeSlice 41 (.int .i64 (n : Int)) (.int .i64 (n : Int))).run Try.prog w = .ok (.slice (some ⟨w.heap.size, 0, none⟩) n n) (w.alloc (.cells (ns (List.replicate n 0)).toArray 3)) := by
  rw [make_ints n hn w]
  simp [ns, zs]
theorem k_infoB : ∃ i0, Try.prog.info? 4 = some i0 ∧ i0.zero = some (.bool false) ∧ i0.size = 1 ∧ i0.bytes = 1 := by
  have h : (Try.prog.info? 4).map (fun i => (i.zero, i.size, i.bytes)) = some (some (.bool false), 1, 1) := by kernel_rfl
  cases hi : Try.prog.info? 4 with
  | none => rw [hi] at h; cases h
  | some i =>
    rw [hi] at h
    simp at h
    exact ⟨i, rfl, h.1, h.2.1, h.2.2⟩
theorem k_infoS : ∃ i0, Try.prog.info? 41 = some i0 ∧ i0.zero = some (.slice none 0 0) ∧ i0.size = 1 ∧ i0.bytes = 24 := by
  have h : (Try.prog.info? 41).map (fun i => (i.zero, i.size, i.bytes)) = some (some (.slice none 0 0), 1, 24) := by kernel_rfl
  cases hi : Try.prog.info? 41 with
  | none => rw [hi] at h; cases h
  | some i =>
    rw [hi] at h
    simp at h
    exact ⟨i, rfl, h.1, h.2.1, h.2.2⟩
theorem made_any (v : Value) (n : Nat) : madeCells #[v] (n * 1) = (List.replicate n v).toArray := by
  apply Array.ext
  · simp [madeCells]
  · intro i h1 h2
    simp [madeCells]
    rw [show i % 1 = 0 from Nat.mod_one i]
    rfl
end Go.Proofs.Ytjopfpchbakggaa
