/- The writer of parse at expressions: as a plain function (names, small numbers, operators). -/
import Derived.Test.YtbcflcnkhhkogaaGreatDoorZb34
set_option linter.unusedSimpArgs false
set_option linter.unusedVariables false
set_option maxRecDepth 10000

namespace Go.Proofs.YtbcflcnkhhkogaaGreatDoor
open Go.RowKit

/-- What a writer has: its text, whether there can be none, how many nodes. -/
abbrev WS3 : Type := (List UInt8 × Bool) × Int
def wW (x : WS3) (ss : List ByteArray) : WS3 := (wdsS x.1 ss, x.2)
/-- An operator and its operands. -/
def wJ (E : PN → Int → WS3 → Option WS3) (o : Opr) (l : List PN) (x : WS3) : Option WS3 :=
  if o.lv = 6 then (match l with
    | [a] => E a 6 (wW x [o.s])
    | _ => none)
  else match l with
    | [a, b] =>
      if o.lv = 7 then (match E a 7 x with
        | none => none
        | some y => match E b 1 (wW y [⟨#[91]⟩]) with
          | none => none
          | some z => some (wW z [⟨#[93]⟩]))
      else if o.lv = 3 then (match E a 4 x with
        | none => none
        | some y => E b 4 (wW y [o.s]))
      else (match E a o.lv x with
        | none => none
        | some y => E b (o.lv + 1) (wW y [o.s]))
    | _ => none
/-- A node with an operator. -/
def wO (E : PN → Int → WS3 → Option WS3) (p : PN) (least : Int) (x : WS3) : Option WS3 :=
  match ofNd p.k p.o with
  | none => some ((x.1.1, true), x.2)
  | some o => if (p.l.length : Int) = (if o.lv = 6 then 1 else 2) then
      (if least ≤ o.lv then wJ E o p.l x else (match wJ E o p.l (wW x [⟨#[40]⟩]) with
        | none => none
        | some y => some (wW y [⟨#[41]⟩])))
    else some ((x.1.1, true), x.2)
def dig1 (n : Int) : ByteArray := ⟨#[UInt8.ofNat (48 + n.toNat)]⟩
def wE : Nat → PN → Int → WS3 → Option WS3
  | 0, _, _, _ => none
  | f + 1, p, least, x =>
    if 0 ≤ x.2 ∧ x.2 ≤ 100000 ∧ p.s.size ≤ 100000000 then
      (if entN x.2 x.1.2 then some ((x.1.1, true), x.2 + 1)
      else if p.k = 11 ∨ p.k = 12 ∨ p.k = 13 ∨ p.k = 14 then wO (wE f) p least ((x.1.1, false), x.2 + 1)
      else if p.k = 15 then (if 0 ≤ p.n ∧ p.n < 10 then some (wW ((x.1.1, false), x.2 + 1) [dig1 p.n]) else none)
      else if p.k = 18 then some (wW ((x.1.1, false), x.2 + 1) [⟨#[110, 105, 108]⟩])
      else if p.k = 19 then some (wW ((x.1.1, false), x.2 + 1) [p.s])
      else none)
    else none

/-- What a call of one of the writer's functions leaves. -/
def WrE (g : Nat) (w : World) (y : WS3) (e : Ending) (w' : World) : Prop := e = .returned (.tuple #[]) ∧ Wr w' g y.1.1 y.2 y.1.2 ∧ y.1.1.length ≤ 4000 ∧ WrK g w w'
/-- A writer that stands so, the tree below it. -/
structure WrI (w : World) (g : Nat) (x : WS3) : Prop where
  wr : Wr w g x.1.1 x.2 x.1.2
  len : x.1.1.length ≤ 4000
  op : Opx w
  pos : 0 < g
theorem Opx.wrk {g : Nat} {w w' : World} (h : Opx w) (k : WrK g w w') (hg : 0 < g) : Opx w' := fun j v hv => by
  rw [World.cell?_of_block (w := w) (k.low _ hg)]
  exact h j v hv
theorem WrI.go {g : Nat} {w w' : World} {x y : WS3} (h : WrI w g x) (k : WrK g w w') (s : Wr w' g y.1.1 y.2 y.1.2) (hl : y.1.1.length ≤ 4000) : WrI w' g y := ⟨s, hl, h.op.wrk k h.pos, h.pos⟩
theorem WrI.ext {g : Nat} {w w' : World} {x : WS3} (h : WrI w g x) (k : Ext w w') : WrI w' g x := ⟨h.wr.ext k, h.len, h.op.ext k, h.pos⟩
theorem RepN.wrk {g : Nat} {w w' : World} {p : PN} {v : Value} (h : RepN w (fun b => b < g) p v) (k : WrK g w w') : RepN w' (fun b => b < g) p v := RepN.to (fun b hb => ⟨hb, k.low b hb⟩) p v h
theorem RepNL.wrk {g : Nat} {w w' : World} {l : List PN} {a : Option Addr} (h : RepNL w (fun b => b < g) l a) (k : WrK g w w') : RepNL w' (fun b => b < g) l a := RepNL.to (fun b hb => ⟨hb, k.low b hb⟩) l a h
theorem RepN.low' {g : Nat} {w w' : World} {p : PN} {v : Value} (h : RepN w (fun b => b < g) p v) (hg : g ≤ w.heap.size) (k : Ext w w') : RepN w' (fun b => b < g) p v := RepN.to (fun b hb => ⟨hb, k.block b (by omega)⟩) p v h

/-- Some words at a call that has laid their row last. -/
theorem words_new (g : Nat) (x : WS3) (ss : List ByteArray) (w : World) (h : WrI w g x) (hs : ∀ s ∈ ss, s.size ≤ 100000000) (hn : ss.length ≤ 1000) :
    Calls Tryz.prog 65 #[.pointer (some ⟨g, 0, none⟩), .slice (some ⟨w.heap.size, 0, none⟩) ss.length ss.length] (w.alloc (.cells (ss.map Value.string).toArray 9)) (WrE g w (wW x ss)) := by
  have hg := h.wr.lt
  refine Calls.mono (words_any g x.1 x.2 ss w.heap.size ss.length _ (h.wr.ext (Ext.alloc _ _)) h.len hs (Go.heap_alloc_new w _) (by omega) hn) ?_
  rintro e w' ⟨rfl, h2, h3⟩
  exact ⟨rfl, h2, wdsS_len ss h.len, (WrK.ext (Ext.alloc _ _) hg).trans h3⟩
theorem words1 (g : Nat) (x : WS3) (s : ByteArray) (w : World) (k : Nat) (hk : k = w.heap.size) (h : WrI w g x) (hs : s.size ≤ 100000000) :
    Calls Tryz.prog 65 #[.pointer (some ⟨g, 0, none⟩), .slice (some ⟨k, 0, none⟩) 1 1] (w.alloc (.cells #[.string s] 9)) (WrE g w (wW x [s])) := by
  subst hk
  exact words_new g x [s] w h (fun t ht => by rw [List.mem_singleton.1 ht]; exact hs) (by simp)

/-- What is asked of the function that lays down an expression. -/
def ExW (g : Nat) (E : PN → Int → WS3 → Option WS3) : Prop := ∀ (p : PN) (least : Int) (x y : WS3) (v : Value) (W : World), E p least x = some y → WrI W g x → RepN W (fun b => b < g) p v → Calls Tryz.prog 31 #[.pointer (some ⟨g, 0, none⟩), v, .int .i64 least] W (WrE g W y)

theorem oprO_not {w : World} {k : Nat} {o : Opr} (h : w.heap[k]? = some (oprO o)) : NotB (w.heap[k]?) := by
  intro cs f e
  rw [h] at e
  injection e with e
  injection e with _ e _
  exact absurd e (by decide)
theorem nodO_not {w : World} {k : Nat} {cs : Array Value} (h : w.heap[k]? = some (.cells cs 25 (0, 0))) : NotB (w.heap[k]?) := by
  intro cs f e
  rw [h] at e
  injection e with e
  injection e with _ e _
  exact absurd e (by decide)
/-- The cells of a tree in a list, in a world behind. -/
theorem repNL_at {w : World} {F : Nat → Prop} : ∀ {l : List PN} {a : Option Addr}, RepNL w F l a → ∀ (i : Nat) (p : PN), l[i]? = some p → ∃ b off c0 c1 c2 c3 c4, a = some ⟨b, off, none⟩ ∧ F b ∧ RepN w F p (.agg #[c0, c1, c2, c3, c4]) ∧
      w.cell? ⟨b, off + i * 5, none⟩ = some c0 ∧ w.cell? ⟨b, off + i * 5 + 1, none⟩ = some c1 ∧ w.cell? ⟨b, off + i * 5 + 2, none⟩ = some c2 ∧ w.cell? ⟨b, off + i * 5 + 3, none⟩ = some c3 ∧ w.cell? ⟨b, off + i * 5 + 4, none⟩ = some c4 := by
  intro l
  induction l with
  | nil => intro a _ i p h; simp at h
  | cons x xs ih =>
    intro a h i p hp
    rw [RepNL] at h
    obtain ⟨b, off, c0, c1, c2, c3, c4, rfl, hf, hr, h0, h1, h2, h3, h4, hrest⟩ := h
    cases i with
    | zero =>
      simp at hp
      subst hp
      refine ⟨b, off, c0, c1, c2, c3, c4, rfl, hf, hr, ?_⟩
      rw [Nat.zero_mul, Nat.add_zero]
      exact ⟨h0, h1, h2, h3, h4⟩
    | succ j =>
      simp at hp
      obtain ⟨b', off', d0, d1, d2, d3, d4, he, r⟩ := ih hrest j p hp
      injection he with he
      injection he with e1 e2
      subst e1 e2
      refine ⟨b, off, d0, d1, d2, d3, d4, rfl, ?_⟩
      rw [show off + (j + 1) * 5 = off + 5 + j * 5 by omega]
      exact r

end Go.Proofs.YtbcflcnkhhkogaaGreatDoor
