/- Laying code, as plain functions: of trees whose nodes are blocks, whiles, prints, expressions alone, numbers, lists, calls and ops of two; none of others. · A maker of code, as it lies in memory. · The maker: lay, tick, next, call, ahead and what it answers. · A region that draws its order and calls what makes memory alone. -/
import Derived.Test.YtlgdjeiendmniaaGreatDoorZg11
import Derived.Test.YtlgdjeiendmniaaGreatDoorZg3
import Derived.Test.YtlgdjeiendmniaaGreatDoorZg12
import Derived.StillTailTactics
import Derived.Test.YtlgdjeiendmniaaGreatDoorZg10
import Derived.Deep.QuietTactic
import Derived.BigQuiet
set_option linter.unusedSimpArgs false
set_option linter.unusedVariables false
set_option maxRecDepth 10000

namespace Go.Proofs.YtlgdjeiendmniaaGreatDoor
open Go.RowKit

abbrev KI := V.KI
/-- A maker: the code so far, the constants (none: nil), the calls to come, the ticks. -/
structure GM where
  code : List KI
  cs : List (Option Int)
  cl : List Int
  tk : Int
def GM.lay (m : GM) (op a b : Int) : GM := { m with code := m.code ++ [⟨op, a, b⟩] }
def GM.tick (m : GM) : GM := ({ m with tk := m.tk + 1 } : GM).lay 12 (m.tk + 1) 0
def gIx (v : Option Int) : List (Option Int) → Nat → Option Nat
  | [], _ => none
  | x :: r, i => if x = v then some i else gIx v r (i + 1)
def GM.give (m : GM) (v : Option Int) : GM := match gIx v m.cs 0 with
  | some i => m.lay 1 (i : Int) 0
  | none => ({ m with cs := m.cs ++ [v] } : GM).lay 1 (m.cs.length : Int) 0
def GM.call (m : GM) (c : Int) (k : Nat) : GM := if c < 1000 then m.tick.lay 9 c (k : Int) else if k = 2 then m.lay 5 (c - 1000) 0 else m.lay 6 (c - 1000) 0
/-- The jump at a place leads to here. -/
def GM.lead (m : GM) (j : Nat) : GM := match m.code[j]? with
  | none => m
  | some i => { m with code := m.code.set j ⟨i.op, (m.code.length : Int), i.b⟩ }

def gcB : Option Int → Bool
  | none => true
  | some n => decide (-9223372036854775808 ≤ n ∧ n ≤ 9223372036854775807)
/-- Is it of such a size that all goes well? -/
def GM.ok (m : GM) : Bool := decide (m.code.length ≤ 50000) && (decide (m.cs.length ≤ 50000) && (decide (0 ≤ m.tk ∧ m.tk ≤ 50000) && m.cs.all gcB))
def gG (m : GM) : Option GM := if m.ok then some m else none

def gEs (ex : PN → GM → Option GM) : List PN → GM → Option GM
  | [], m => some m
  | x :: r, m => match ex x m with
    | none => none
    | some m' => gEs ex r m'
def gE : Nat → PN → GM → Option GM
  | 0, _, _ => none
  | f + 1, x, m =>
    if x.k = 15 then gG (m.give (some x.n))
    else if 1000000 < x.l.length then none
    else if x.k = 11 then (match gEs (gE f) x.l m with
      | none => none
      | some m' => gG (m'.lay 5 x.o 0))
    else if x.k = 21 then (match gEs (gE f) x.l m with
      | none => none
      | some m' => gG (m'.lay 13 (x.l.length : Int) 0))
    else if x.k = 20 then (match gEs (gE f) x.l m with
      | none => none
      | some m' => match m'.cl with
        | [] => none
        | c :: r => if 0 ≤ c ∧ c ≤ 1000000 then gG (({ m' with cl := r } : GM).call c x.l.length) else none)
    else none
def gBl (st : PN → GM → Option GM) : List PN → GM → Option GM
  | [], m => some m
  | x :: r, m => if x.k = 10 then none else match st x m with
    | none => none
    | some m' => gBl st r m'
def gS : Nat → PN → GM → Option GM
  | 0, _, _ => none
  | f + 1, x, m =>
    if 1000000 < x.l.length then none
    else if x.k = 9 then (match x.l with
      | [] => none
      | y :: _ => match gE f y m with
        | none => none
        | some m' => gG (m'.lay 4 0 0))
    else if x.k = 8 then (match x.l with
      | [] => none
      | y :: _ => match gE f y m with
        | none => none
        | some m' => gG (m'.lay 11 0 0))
    else if x.k = 10 then gBl (gS f) x.l m
    else if x.k = 4 then (match x.l with
      | y :: z :: _ => (match gE f y m with
        | none => none
        | some m1 => match gG (m1.lay 8 0 0) with
          | none => none
          | some m2 => match gS f z m2 with
            | none => none
            | some m3 => gG ((m3.tick.lay 7 (m.code.length : Int) 0).lead m1.code.length))
      | _ => none)
    else none
/-- A function's code, its constants, and the ticks behind it. -/
def gFn (f : Nat) (x : PN) (cl : List Int) (tk : Int) : Option GM := match gS f x ⟨[], [], cl, tk⟩ with
  | none => none
  | some m => some ((m.give none).lay 10 0 0)

def gcP : Option Int → V.PV
  | none => .mk 0 0 0 0 ⟨#[]⟩ []
  | some n => .mk 1 n 0 0 ⟨#[]⟩ []
end Go.Proofs.YtlgdjeiendmniaaGreatDoor

namespace Go.Proofs.YtlgdjeiendmniaaGreatDoor
open Go.RowKit

abbrev kiC (i : KI) : List Value := [.int .i64 i.op, .int .i64 i.a, .int .i64 i.b]
abbrev gcK : Option Int → Int
  | none => 0
  | some _ => 1
abbrev gcN : Option Int → Int
  | none => 0
  | some n => n
abbrev gcC (v : Option Int) : List Value := [.int .i64 (gcK v), .int .i64 (gcN v), .complex .f64 0 0, .string ⟨#[]⟩, .slice none 0 0]
abbrev gcV (v : Option Int) : Value := .agg #[.int .i64 (gcK v), .int .i64 (gcN v), .complex .f64 0 0, .string ⟨#[]⟩, .slice none 0 0]
abbrev mkO (kv cv sv lv : Value) (tk : Int) (lp : Value) : Obj := .cells #[kv, cv, sv, lv, .int .i64 tk, lp] 67 (0, 0)

/-- Numbers, from a place on. -/
def RepO (w : World) (F : Nat → Prop) (l : List Int) (a : Option Addr) : Prop := l = [] ∨ ∃ b o, a = some ⟨b, o, none⟩ ∧ F b ∧ ∀ j x, l[j]? = some x → w.cell? ⟨b, o + j, none⟩ = some (.int .i64 x)
theorem RepO.to {w w' : World} {F F' : Nat → Prop} (h : ∀ b, F b → F' b ∧ w'.heap[b]? = w.heap[b]?) {l : List Int} {a : Option Addr} (hr : RepO w F l a) : RepO w' F' l a := by
  rcases hr with hr | ⟨b, o, rfl, hf, hc⟩
  · exact Or.inl hr
  · exact Or.inr ⟨b, o, rfl, (h b hf).1, fun j x hx => by rw [World.cell?_of_block (w := w) (h b hf).2]; exact hc j x hx⟩

/-- The block g holds a maker; its rows lie behind it, the calls to come ahead of it. -/
structure MS (g : Nat) (w : World) (d : GM) (sv lp : Value) (ka : Option Addr) (kc : Nat) (ca : Option Addr) (cc : Nat) (la : Option Addr) (lc : Nat) : Prop where
  row : w.heap[g]? = some (mkO (.slice ka d.code.length kc) (.slice ca d.cs.length cc) sv (.slice la d.cl.length lc) d.tk lp)
  ok : w.ownsRow (g + 1) 33 3 (.slice ka d.code.length kc) d.code.length (d.code.flatMap kiC)
  oc : w.ownsRow (g + 1) 124 5 (.slice ca d.cs.length cc) d.cs.length (d.cs.flatMap gcC)
  cl : d.cl.length ≤ lc ∧ RepO w (fun b => b < g) d.cl la
/-- Of what stood only the maker and its rows have turned. -/
structure MF (g : Nat) (w w' : World) : Prop where
  os : w'.os = w.os
  tape : w'.tape = w.tape
  output : w'.output = w.output
  size : w.heap.size ≤ w'.heap.size
  low : ∀ b, b < g → w'.heap[b]? = w.heap[b]?
  typ : ∀ b cs t fr, w.heap[b]? = some (.cells cs t fr) → b ≠ g → t ≠ 33 → t ≠ 124 → w'.heap[b]? = some (.cells cs t fr)

variable {g : Nat} {w w' w2 : World} {d : GM} {sv lp : Value} {ka ca la : Option Addr} {kc cc lc : Nat}

theorem MF.refl (g : Nat) (w : World) : MF g w w := ⟨rfl, rfl, rfl, Nat.le_refl _, fun _ _ => rfl, fun _ _ _ _ h _ _ _ => h⟩
theorem MF.trans (h : MF g w w') (k : MF g w' w2) : MF g w w2 := ⟨k.os.trans h.os, k.tape.trans h.tape, k.output.trans h.output, Nat.le_trans h.size k.size, fun b hb => (k.low b hb).trans (h.low b hb), fun b cs t fr hb h1 h2 h3 => k.typ b cs t fr (h.typ b cs t fr hb h1 h2 h3) h1 h2 h3⟩
theorem MF.of (hg : g < w.heap.size) (k : Ext w w') : MF g w w' := ⟨k.os, k.tape, k.output, k.size, fun b hb => k.block b (by omega), fun b cs t fr hb _ _ _ => (k.block b (Array.getElem?_eq_some_iff.1 hb).1).trans hb⟩
theorem MF.set (h : MF g w w') (i : Nat) (v : Value) : MF g w (w'.setCell ⟨g, i, none⟩ v) := by
  refine ⟨h.os, h.tape, h.output, by simpa [World.setCell] using h.size, fun b hb => ?_, fun b cs t fr hb h1 h2 h3 => ?_⟩
  · rw [Below.heap_setCell _ _ _ _ (by show b ≠ g; omega)]; exact h.low b hb
  · rw [Below.heap_setCell _ _ _ _ (by show b ≠ g; exact h1)]; exact h.typ b cs t fr hb h1 h2 h3
theorem MF.grow {wa w6 : World} {e : TypeId} {size n : Nat} {v : Value} {xs : List Value} (ho : wa.ownsRow (g + 1) e size v n xs) (he : e = 33 ∨ e = 124) (hg : g < wa.heap.size) (hgw : wa.grownBy w6 v.ownBlock) : MF g wa w6 := by
  refine ⟨hgw.os, hgw.tape, hgw.output, hgw.size, fun b hb => hgw.block b (by omega) (fun e => by have := (ho.lt b e.symm).1; omega), fun b cs t fr hb h1 h2 h3 => ?_⟩
  refine (hgw.block b (Array.getElem?_eq_some_iff.1 hb).1 (fun e2 => ?_)).trans hb
  rcases ho.2 with ⟨rfl, _⟩ | ⟨b2, cap, cur, rfl, _, hrow, _⟩
  · cases e2
  · simp only [Value.ownBlock, Option.some.injEq] at e2
    subst e2
    rw [hrow] at hb
    injection hb with hb
    injection hb with _ hb _
    subst hb
    rcases he with rfl | rfl
    · exact h2 rfl
    · exact h3 rfl
/-- A cell of a row of its own is set. -/
theorem MF.setR {wa : World} {e : TypeId} {size n c b : Nat} {xs : List Value} (h : MF g w wa) (ho : wa.ownsRow (g + 1) e size (.slice (some ⟨b, 0, none⟩) n c) n xs) (he : e = 33 ∨ e = 124) (i : Nat) (u : Value) : MF g w (wa.setCell ⟨b, i, none⟩ u) := by
  have hb := (ho.lt b rfl).1
  refine ⟨h.os, h.tape, h.output, by simpa [World.setCell] using h.size, fun q hq => ?_, fun q cs t fr hq h1 h2 h3 => ?_⟩
  · rw [Below.heap_setCell _ _ _ _ (by show q ≠ b; omega)]; exact h.low q hq
  · have hq2 := h.typ q cs t fr hq h1 h2 h3
    refine (Below.heap_setCell _ _ _ _ (fun e2 => ?_)).trans hq2
    have e2 : q = b := by first | exact e2 | exact e2.symm
    subst e2
    rcases ho.2 with ⟨e3, _⟩ | ⟨b2, cap, cur, e3, _, hrow, _⟩
    · cases e3
    · injection e3 with e3 _ _
      injection e3 with e3
      injection e3 with e3 _ _
      subst e3
      rw [hrow] at hq2
      injection hq2 with hq2
      injection hq2 with _ hq2 _
      subst hq2
      rcases he with rfl | rfl
      · exact h2 rfl
      · exact h3 rfl

theorem own_setM {w : World} {base : Nat} {t : TypeId} {size g n cap : Nat} {xs : List Value} (h : w.ownsRow base t size (.slice (some ⟨g, 0, none⟩) n cap) n xs) (i : Nat) (v : Value) : (w.setCell ⟨g, i, none⟩ v).ownsRow base t size (.slice (some ⟨g, 0, none⟩) n cap) n (xs.set i v) := by
  obtain ⟨h1, h2⟩ := h
  refine ⟨by simpa using h1, ?_⟩
  rcases h2 with ⟨e, h0⟩ | ⟨g2, cap2, cur, e, hb, hg, hn, hcm, hcs, ht⟩
  · cases e
  · injection e with e1 e2 e3
    injection e1 with e1
    injection e1 with e1
    subst e1 e3
    refine Or.inr ⟨g, cap, cur.setIfInBounds i v, rfl, hb, row_set hg i v, hn, hcm, by simpa using hcs, ?_⟩
    rw [← ht, Array.toList_setIfInBounds, List.take_set]

theorem own_keepM {wa wb : World} {base : Nat} {e : TypeId} {size n : Nat} {v : Value} {xs : List Value} (h : wa.ownsRow base e size v n xs) (k : ∀ q, v.ownBlock = some q → wb.heap[q]? = wa.heap[q]?) : wb.ownsRow base e size v n xs := by
  obtain ⟨h1, h2⟩ := h
  refine ⟨h1, ?_⟩
  rcases h2 with h2 | ⟨b, cap, cur, q1, q2, q3, q4⟩
  · exact Or.inl h2
  · subst q1
    exact Or.inr ⟨b, cap, cur, rfl, q2, (k b rfl).trans q3, q4⟩
theorem MS.lt (h : MS g w d sv lp ka kc ca cc la lc) : g < w.heap.size := (Array.getElem?_eq_some_iff.1 h.row).1
theorem own_extM {base : Nat} {e : TypeId} {size n : Nat} {v : Value} {xs : List Value} (h : w.ownsRow base e size v n xs) (k : Ext w w') : w'.ownsRow base e size v n xs := by
  obtain ⟨h1, h2⟩ := h
  refine ⟨h1, ?_⟩
  rcases h2 with h2 | ⟨b, cap, cur, q1, q2, q3, q4⟩
  · exact Or.inl h2
  · exact Or.inr ⟨b, cap, cur, q1, q2, (k.block b (Array.getElem?_eq_some_iff.1 q3).1).trans q3, q4⟩
theorem MS.ext (h : MS g w d sv lp ka kc ca cc la lc) (k : Ext w w') : MS g w' d sv lp ka kc ca cc la lc := by
  have hg := h.lt
  exact ⟨(k.block g hg).trans h.row, own_extM h.ok k, own_extM h.oc k, h.cl.1, h.cl.2.to (fun b hb => ⟨hb, k.block b (by omega)⟩)⟩
theorem own_twoM {base base' : Nat} {e e' : TypeId} {size size' n n' : Nat} {v v' : Value} {xs xs' : List Value} (h : w.ownsRow base e size v n xs) (h' : w.ownsRow base' e' size' v' n' xs') (hne : e ≠ e') : v.ownBlock = none ∨ v.ownBlock ≠ v'.ownBlock := by
  rcases h.2 with ⟨rfl, _⟩ | ⟨b, cap, cur, rfl, _, hrow, _⟩
  · exact Or.inl rfl
  · refine Or.inr (fun e1 => ?_)
    rcases h'.2 with ⟨rfl, _⟩ | ⟨b', cap', cur', rfl, _, hrow', _⟩
    · cases e1
    · simp only [Value.ownBlock, Option.some.injEq] at e1
      subst e1
      rw [hrow] at hrow'
      injection hrow' with hrow'
      injection hrow' with _ h2 _
      exact hne h2
theorem row_growM {wa w6 : World} {v : Value} {e : TypeId} {size n : Nat} {xs : List Value} {ob : Obj} (ho : wa.ownsRow (g + 1) e size v n xs) (hgw : wa.grownBy w6 v.ownBlock) (h : wa.heap[g]? = some ob) : w6.heap[g]? = some ob :=
  (hgw.block g (Array.getElem?_eq_some_iff.1 h).1 (fun e => by have := (ho.lt g e.symm).1; omega)).trans h
/-- A cell of the maker itself is set. -/
theorem MS.put {sv' lp' : Value} {la' : Option Addr} {lc' : Nat} (h : MS g w d sv lp ka kc ca cc la lc) (i : Nat) (v : Value) (d' : GM) (h1 : d'.code = d.code) (h2 : d'.cs = d.cs) (h3 : d'.cl.length ≤ lc' ∧ RepO w (fun b => b < g) d'.cl la') (hrow : (w.setCell ⟨g, i, none⟩ v).heap[g]? = some (mkO (.slice ka d.code.length kc) (.slice ca d.cs.length cc) sv' (.slice la' d'.cl.length lc') d'.tk lp')) :
    MS g (w.setCell ⟨g, i, none⟩ v) d' sv' lp' ka kc ca cc la' lc' := by
  refine ⟨by rw [h1, h2]; exact hrow, by rw [h1]; exact ownsRow_setCell_below h.ok (Nat.lt_succ_self g) v, by rw [h2]; exact ownsRow_setCell_below h.oc (Nat.lt_succ_self g) v, h3.1, h3.2.to (fun b hb => ⟨hb, Below.heap_setCell _ _ _ _ (by show b ≠ g; omega)⟩)⟩
theorem MS.setTk (h : MS g w d sv lp ka kc ca cc la lc) (c : Int) : MS g (w.setCell ⟨g, 4, none⟩ (.int .i64 c)) { d with tk := c } sv lp ka kc ca cc la lc := h.put 4 _ { d with tk := c } rfl rfl h.cl (row_set h.row 4 _)
theorem MS.setLp (h : MS g w d sv lp ka kc ca cc la lc) (v : Value) : MS g (w.setCell ⟨g, 5, none⟩ v) d sv v ka kc ca cc la lc := h.put 5 _ d rfl rfl h.cl (row_set h.row 5 _)
theorem MS.pushK {wa w6 : World} {g' cap' : Nat} {i : KI} (h : MS g wa d sv lp ka kc ca cc la lc) (ho : w6.ownsRow (g + 1) 33 3 (.slice (some ⟨g', 0, none⟩) (d.code.length + 1) cap') (d.code.length + 1) (d.code.flatMap kiC ++ kiC i)) (hgw : wa.grownBy w6 (Value.slice ka d.code.length kc).ownBlock) :
    MS g (w6.setCell ⟨g, 0, none⟩ (.slice (some ⟨g', 0, none⟩) (d.code.length + 1) cap')) { d with code := d.code ++ [i] } sv lp (some ⟨g', 0, none⟩) cap' ca cc la lc ∧ MF g wa (w6.setCell ⟨g, 0, none⟩ (.slice (some ⟨g', 0, none⟩) (d.code.length + 1) cap')) := by
  have hg := h.lt
  have c1 : w6.ownsRow (g + 1) 124 5 (.slice ca d.cs.length cc) d.cs.length (d.cs.flatMap gcC) := h.oc.kept hgw (own_twoM h.oc h.ok (by decide))
  have hr := row_growM h.ok hgw h.row
  have hlow : ∀ b, b < g → w6.heap[b]? = wa.heap[b]? := fun b hb => hgw.block b (by omega) (fun e => by have := (h.ok.lt b e.symm).1; omega)
  have hl : (d.code ++ [i]).length = d.code.length + 1 := by simp
  refine ⟨⟨?_, ?_, ownsRow_setCell_below c1 (Nat.lt_succ_self g) _, h.cl.1, h.cl.2.to (fun b hb => ⟨hb, (Below.heap_setCell _ _ _ _ (by show b ≠ g; omega)).trans (hlow b hb)⟩)⟩, (MF.grow h.ok (Or.inl rfl) hg hgw).set 0 _⟩
  · have := row_set hr 0 (.slice (some ⟨g', 0, none⟩) (d.code.length + 1) cap')
    rw [hl]
    exact this
  · rw [List.flatMap_append, hl]
    exact ownsRow_setCell_below (by simpa using ho) (Nat.lt_succ_self g) _
theorem MS.pushC {wa w6 : World} {g' cap' : Nat} {v : Option Int} (h : MS g wa d sv lp ka kc ca cc la lc) (ho : w6.ownsRow (g + 1) 124 5 (.slice (some ⟨g', 0, none⟩) (d.cs.length + 1) cap') (d.cs.length + 1) (d.cs.flatMap gcC ++ gcC v)) (hgw : wa.grownBy w6 (Value.slice ca d.cs.length cc).ownBlock) :
    MS g (w6.setCell ⟨g, 1, none⟩ (.slice (some ⟨g', 0, none⟩) (d.cs.length + 1) cap')) { d with cs := d.cs ++ [v] } sv lp ka kc (some ⟨g', 0, none⟩) cap' la lc ∧ MF g wa (w6.setCell ⟨g, 1, none⟩ (.slice (some ⟨g', 0, none⟩) (d.cs.length + 1) cap')) := by
  have hg := h.lt
  have c1 : w6.ownsRow (g + 1) 33 3 (.slice ka d.code.length kc) d.code.length (d.code.flatMap kiC) := h.ok.kept hgw (own_twoM h.ok h.oc (by decide))
  have hr := row_growM h.oc hgw h.row
  have hlow : ∀ b, b < g → w6.heap[b]? = wa.heap[b]? := fun b hb => hgw.block b (by omega) (fun e => by have := (h.oc.lt b e.symm).1; omega)
  have hl : (d.cs ++ [v]).length = d.cs.length + 1 := by simp
  refine ⟨⟨?_, ownsRow_setCell_below c1 (Nat.lt_succ_self g) _, ?_, h.cl.1, h.cl.2.to (fun b hb => ⟨hb, (Below.heap_setCell _ _ _ _ (by show b ≠ g; omega)).trans (hlow b hb)⟩)⟩, (MF.grow h.oc (Or.inr rfl) hg hgw).set 1 _⟩
  · have := row_set hr 1 (.slice (some ⟨g', 0, none⟩) (d.cs.length + 1) cap')
    rw [hl]
    exact this
  · rw [List.flatMap_append, hl]
    exact ownsRow_setCell_below (by simpa using ho) (Nat.lt_succ_self g) _
theorem mk_c {kv cv sv lv lp : Value} {tk : Int} (h : w.heap[g]? = some (mkO kv cv sv lv tk lp)) : w.cell? ⟨g, 0, none⟩ = some kv ∧ w.cell? ⟨g, 1, none⟩ = some cv ∧ w.cell? ⟨g, 2, none⟩ = some sv ∧ w.cell? ⟨g, 3, none⟩ = some lv ∧ w.cell? ⟨g, 4, none⟩ = some (.int .i64 tk) ∧ w.cell? ⟨g, 5, none⟩ = some lp ∧ ∀ i, w.frozen? ⟨g, i, none⟩ = false :=
  ⟨rowC h 0 rfl, rowC h 1 rfl, rowC h 2 rfl, rowC h 3 rfl, rowC h 4 rfl, rowC h 5 rfl, rowF h⟩

/-- A maker that has made d. -/
def MK (g : Nat) (w : World) (d : GM) (sv lp : Value) : Prop := ∃ ka kc ca cc la lc, MS g w d sv lp ka kc ca cc la lc
theorem MK.ext (h : MK g w d sv lp) (k : Ext w w') : MK g w' d sv lp := by
  obtain ⟨ka, kc, ca, cc, la, lc, h⟩ := h
  exact ⟨ka, kc, ca, cc, la, lc, h.ext k⟩
theorem MK.lt (h : MK g w d sv lp) : g < w.heap.size := by
  obtain ⟨ka, kc, ca, cc, la, lc, h⟩ := h
  exact h.lt
/-- What a step of the maker answers. -/
abbrev MAns (g : Nat) (w : World) (d : GM) (sv lp : Value) (e : Ending) (w' : World) : Prop := e = .returned (.tuple #[]) ∧ MK g w' d sv lp ∧ MF g w w'

theorem infoK : (Tryz.prog.info? 33).map (fun i => (i.zero, i.size, i.bytes)) = some (some (.agg #[.int .i64 0, .int .i64 0, .int .i64 0]), 3, 24) := by kernel_rfl
theorem infoVv : (Tryz.prog.info? 124).map (fun i => (i.zero, i.size, i.bytes)) = some (some (.agg #[.int .i64 0, .int .i64 0, .complex .f64 0 0, .string ⟨#[]⟩, .slice none 0 0]), 5, 72) := by kernel_rfl
theorem one_ki (i : KI) : ∀ u ∈ kiC i, u.oneCell' = true := by
  intro u hu
  simp at hu
  rcases hu with rfl | rfl | rfl <;> rfl
theorem one_gc (v : Option Int) : ∀ u ∈ gcC v, u.oneCell' = true := by
  intro u hu
  simp at hu
  rcases hu with rfl | rfl | rfl | rfl | rfl <;> rfl

end Go.Proofs.YtlgdjeiendmniaaGreatDoor

namespace Go.Proofs.YtlgdjeiendmniaaGreatDoor
open Go.RowKit

variable {g : Nat} {w w' w2 : World} {d : GM} {sv lp : Value}

set_option maxHeartbeats 2000000 in
theorem lay_m (h : MK g w d sv lp) (hb : d.code.length ≤ 100000) (op a : Int) : Calls Tryz.prog 37 #[.pointer (some ⟨g, 0, none⟩), .int .i64 op, .int .i64 a] w (MAns g w (d.lay op a 0) sv lp) := by
  obtain ⟨ka, kc, ca, cc, la, lc, h⟩ := h
  have H := hide h
  have hg := h.lt
  have HA := hide (fun ob => h.ext (Ext.alloc w ob))
  obtain ⟨c0, c1, c2, c3, c4, c5, zf⟩ := mk_c h.row
  obtain ⟨i0, hi, hz0, hz1, hz2⟩ := info_parts infoK
  have HI := hide hi
  have Z0 := hide hz0
  have Z1 := hide hz1
  have Z2 := hide hz2
  clear hi hz0 hz1 hz2 h
  unfold GM.lay
  go_enter Tryz.func37, Tryz.ntmps37
  go_wp2_with (at_builtin; refine wpList_append_where rfl (.tmp 10) (.tmp 14) 29 rfl (g + 1) 33 i0 (.agg #[.int .i64 0, .int .i64 0, .int .i64 0]) 3 24 Tryz.underlying29 (unhide HI) (unhide Z0) (unhide Z1) (unhide Z2) rfl (by decide) ka d.code.length kc (d.code.flatMap kiC) rfl (unhide HA _).ok ⟨w.heap.size, 0, none⟩ 1 1 (kiC ⟨op, a, 0⟩) rfl (by decide) rfl (cells_new w _ _) (one_ki _) ?c1 ?c2 ?c3 ?_)
  case c1 => unfold maxLen; omega
  case c2 => omega
  case c3 => simp; omega
  intro g2 cap6 w6 ho6 hg6 hw6
  have hP := MS.pushK (i := ⟨op, a, 0⟩) (unhide HA _) ho6 hg6
  have hrow6 := row_growM (unhide HA _).ok hg6 (unhide HA _).row
  obtain ⟨z0, z1, z2, z3, z4, z5, zzf⟩ := mk_c hrow6
  have HP := hide hP
  clear hP hrow6 ho6 hg6 hw6 c0 c1 c2 c3 c4 c5 zf
  go_wp2_with fail
  go_end0
  exact ⟨rfl, ⟨_, _, _, _, _, _, (unhide HP).1⟩, (MF.of hg (Ext.alloc _ _)).trans (unhide HP).2⟩

set_option maxHeartbeats 2000000 in
theorem tick_m (h : MK g w d sv lp) (hb : d.code.length ≤ 100000) (ht : 0 ≤ d.tk ∧ d.tk ≤ 1000000) : Calls Tryz.prog 93 #[.pointer (some ⟨g, 0, none⟩)] w (MAns g w d.tick sv lp) := by
  have hg := h.lt
  obtain ⟨ka, kc, ca, cc, la, lc, h⟩ := h
  have S := hide (h.setTk (d.tk + 1))
  obtain ⟨c0, c1, c2, c3, c4, c5, zf⟩ := mk_c h.row
  obtain ⟨e0, e1, e2, e3, e4, e5, zf'⟩ := mk_c (unhide S).row
  have HL := hide (lay_m (d := { d with tk := d.tk + 1 }) ⟨_, _, _, _, _, _, unhide S⟩ hb 12 (d.tk + 1))
  have hw := ht.1
  have hw2 := ht.2
  have HF : Hd (MF g w (w.setCell ⟨g, 4, none⟩ (.int .i64 (d.tk + 1)))) := (MF.refl g w).set 4 _
  clear h ht
  unfold GM.tick
  generalize htk : d.tk = T at *
  go_enter Tryz.func93, Tryz.ntmps93
  go_wp2_with (go_at_call 37; refine Calls.mono (unhide HL) ?_; rintro e w1 ⟨rfl, hm, hf⟩; have R1 := hide hm; have F1 := hide hf; clear hm hf)
  go_end0
  exact ⟨rfl, unhide R1, (unhide HF).trans (unhide F1)⟩

set_option maxHeartbeats 2000000 in
/-- The number of the call that is come to. -/
theorem next_m (c : Int) (r : List Int) (hc : d.cl = c :: r) (h : MK g w d sv lp) : Calls Tryz.prog 91 #[.pointer (some ⟨g, 3, none⟩)] w fun e w' => e = .returned (.int .i64 c) ∧ MK g w' { d with cl := r } sv lp ∧ MF g w w' := by
  have hg := h.lt
  obtain ⟨ka, kc, ca, cc, la, lc, h⟩ := h
  obtain ⟨hlc, hr⟩ := h.cl
  rw [hc] at hlc hr
  rcases hr with hr | ⟨b, o, e1, hb, hcell⟩
  · cases hr
  subst e1
  have k0 := hcell 0 c rfl
  rw [Nat.add_zero] at k0
  obtain ⟨c0, c1, c2, c3, c4, c5, zf⟩ := mk_c h.row
  rw [hc] at c3
  simp only [List.length_cons] at c3 hlc
  by_cases h1 : lc = 1
  · subst h1
    have hr0 : r.length = 0 := by omega
    have hr : r = [] := List.length_eq_zero_iff.1 hr0
    subst hr
    have HS : Hd (MS g (w.setCell ⟨g, 3, none⟩ (.slice (some ⟨b, o, none⟩) 0 0)) { d with cl := [] } sv lp ka kc ca cc (some ⟨b, o, none⟩) 0) := by
      refine h.put 3 _ { d with cl := [] } rfl rfl ⟨Nat.le_refl _, Or.inl rfl⟩ (row_set h.row 3 _)
    have HF : Hd (MF g w (w.setCell ⟨g, 3, none⟩ (.slice (some ⟨b, o, none⟩) 0 0))) := (MF.refl g w).set 3 _
    clear h hcell hc
    simp only [List.length_nil, Nat.zero_add] at c3
    go_enter Tryz.func91, Tryz.ntmps91
    go_wp2_with fail
    go_ret
    exact ⟨rfl, ⟨_, _, _, _, _, _, unhide HS⟩, unhide HF⟩
  · have HS : Hd (MS g (w.setCell ⟨g, 3, none⟩ (.slice (some ⟨b, o + 1, none⟩) r.length (lc - 1))) { d with cl := r } sv lp ka kc ca cc (some ⟨b, o + 1, none⟩) (lc - 1)) := by
      refine h.put 3 _ { d with cl := r } rfl rfl ⟨by show r.length ≤ lc - 1; omega, Or.inr ⟨b, o + 1, rfl, hb, fun j x hx => ?_⟩⟩ (row_set h.row 3 _)
      have := hcell (j + 1) x (by simpa using hx)
      rw [show o + 1 + j = o + (j + 1) by omega]
      exact this
    have HF : Hd (MF g w (w.setCell ⟨g, 3, none⟩ (.slice (some ⟨b, o + 1, none⟩) r.length (lc - 1)))) := (MF.refl g w).set 3 _
    have hlc2 : (r.length : Int) + 1 ≤ (lc : Int) := by omega
    clear h hcell hc
    generalize r.length = n at *
    go_enter Tryz.func91, Tryz.ntmps91
    go_wp2_with fail
    go_ret
    exact ⟨rfl, ⟨_, _, _, _, _, _, unhide HS⟩, unhide HF⟩

set_option maxHeartbeats 2000000 in
/-- What calls what has that number. -/
theorem call_m (h : MK g w d sv lp) (hb : d.code.length ≤ 90000) (ht : 0 ≤ d.tk ∧ d.tk ≤ 1000000) (c : Int) (k : Nat) (hc : 0 ≤ c ∧ c ≤ 1000000) (hk : k ≤ 1000000) : Calls Tryz.prog 90 #[.pointer (some ⟨g, 0, none⟩), .int .i64 c, .int .i64 (k : Int)] w (MAns g w (d.call c k) sv lp) := by
  have hg := h.lt
  unfold GM.call
  by_cases h1 : c < 1000
  · rw [if_pos h1]
    have HT := hide (tick_m h (by omega) ht)
    have hln : d.tick.code.length ≤ d.code.length + 1 := by simp [GM.tick, GM.lay]
    obtain ⟨i0, hi, hz0, hz1, hz2⟩ := info_parts infoK
    have HI := hide hi
    have Z0 := hide hz0
    have Z1 := hide hz1
    have Z2 := hide hz2
    clear hi hz0 hz1 hz2 h ht
    generalize d.tick = D at *
    unfold GM.lay
    go_enter Tryz.func90, Tryz.ntmps90
    go_wp2_with (first
      | (go_at_call 93; refine Calls.mono (unhide HT) ?_; rintro e w1 ⟨rfl, hm, hf⟩; obtain ⟨ka, kc, ca, cc, la, lc, hm⟩ := hm; have F1 := hide hf; have hg1 := hm.lt; have HA := hide (fun ob => hm.ext (Ext.alloc w1 ob)); obtain ⟨c0, c1, c2, c3, c4, c5, zf⟩ := mk_c hm.row; clear hm hf)
      | (at_builtin; go_loud (refine wpList_append_where rfl (.tmp 19) (.tmp 23) 29 rfl (g + 1) 33 i0 (.agg #[.int .i64 0, .int .i64 0, .int .i64 0]) 3 24 Tryz.underlying29 (unhide HI) (unhide Z0) (unhide Z1) (unhide Z2) rfl (by decide) ka D.code.length kc (D.code.flatMap kiC) rfl (unhide HA _).ok ⟨w1.heap.size, 0, none⟩ 1 1 (kiC ⟨9, c, (k : Int)⟩) rfl (by decide) rfl (cells_new w1 _ _) (one_ki _) ?c1 ?c2 ?c3 ?_)))
    case c1 => unfold maxLen; omega
    case c2 => omega
    case c3 => simp; omega
    intro g2 cap6 w6 ho6 hg6 hw6
    have hP := MS.pushK (i := ⟨9, c, (k : Int)⟩) (unhide HA _) ho6 hg6
    have hrow6 := row_growM (unhide HA _).ok hg6 (unhide HA _).row
    obtain ⟨z0, z1, z2, z3, z4, z5, zzf⟩ := mk_c hrow6
    have HP := hide hP
    clear hP hrow6 ho6 hg6 hw6 c0 c1 c2 c3 c4 c5 zf
    go_wp2_with fail
    go_end0
    exact ⟨rfl, ⟨_, _, _, _, _, _, (unhide HP).1⟩, ((unhide F1).trans (MF.of hg1 (Ext.alloc _ _))).trans (unhide HP).2⟩
  · rw [if_neg h1]
    by_cases h2 : k = 2
    · rw [if_pos h2]
      subst h2
      have HL := hide (lay_m h (by omega) 5 (c - 1000))
      clear h
      go_enter Tryz.func90, Tryz.ntmps90
      go_wp2_with (go_at_call 37; refine Calls.mono (unhide HL) ?_; rintro e w1 ⟨rfl, hm, hf⟩; have R1 := hide hm; have F1 := hide hf; clear hm hf)
      go_end0
      exact ⟨rfl, unhide R1, unhide F1⟩
    · rw [if_neg h2]
      have h3 : ¬ (k : Int) = 2 := by omega
      have h4 : ((k : Int) == 2) = false := by rw [beq_eq_false_iff_ne]; exact h3
      have HL := hide (lay_m h (by omega) 6 (c - 1000))
      clear h
      go_enter Tryz.func90, Tryz.ntmps90
      go_wp2_with (go_at_call 37; refine Calls.mono (unhide HL) ?_; rintro e w1 ⟨rfl, hm, hf⟩; have R1 := hide hm; have F1 := hide hf; clear hm hf)
      go_end0
      exact ⟨rfl, unhide R1, unhide F1⟩

/-- A jump that is still to be led: the boxes of what it holds. -/
structure JmpAt (g : Nat) (w : World) (j bm ba : Nat) : Prop where
  m : w.heap[bm]? = some (.cells #[.pointer (some ⟨g, 0, none⟩)] 92 (0, 0))
  a : w.heap[ba]? = some (.cells #[.int .i64 (j : Int)] 3 (0, 0))
  gm : g < bm
  ga : g < ba
abbrev jmpV (bm ba : Nat) : Value := .func (.func 94) #[] #[.pointer (some ⟨bm, 0, none⟩), .pointer (some ⟨ba, 0, none⟩)]
theorem JmpAt.mf {j bm ba : Nat} (h : JmpAt g w j bm ba) (k : MF g w w') : JmpAt g w' j bm ba :=
  ⟨k.typ bm _ _ _ h.m (by have := h.gm; omega) (by decide) (by decide), k.typ ba _ _ _ h.a (by have := h.ga; omega) (by decide) (by decide), h.gm, h.ga⟩

set_option maxHeartbeats 2000000 in
theorem ahead_m (h : MK g w d sv lp) (hb : d.code.length ≤ 90000) (op : Int) : Calls Tryz.prog 63 #[.pointer (some ⟨g, 0, none⟩), .int .i64 op] w fun e w' => ∃ bm ba, e = .returned (jmpV bm ba) ∧ MK g w' (d.lay op 0 0) sv lp ∧ MF g w w' ∧ JmpAt g w' d.code.length bm ba := by
  have hg := h.lt
  obtain ⟨w1, hw1⟩ : ∃ w1, w1 = (w.alloc (.cells #[.pointer (some ⟨g, 0, none⟩)] 92)) := ⟨_, rfl⟩
  obtain ⟨w2, hw2⟩ : ∃ w2, w2 = (w1.alloc (.cells #[.int .i64 (d.code.length : Int)] 3)) := ⟨_, rfl⟩
  have X1 : Ext w w1 := by rw [hw1]; exact Ext.alloc _ _
  have hs1 : w1.heap.size = w.heap.size + 1 := by rw [hw1]; simp
  have X2 : Ext w1 w2 := by rw [hw2]; exact Ext.alloc _ _
  have HL := hide (lay_m ((h.ext X1).ext X2) (by omega) op 0)
  have HF : Hd (MF g w w2) := MF.of hg (X1.trans X2)
  have HJ : Hd (JmpAt g w2 d.code.length w.heap.size (w.heap.size + 1)) := by
    refine ⟨?_, ?_, by omega, by omega⟩
    · rw [X2.block w.heap.size (by omega), hw1]
      exact Go.heap_alloc_new w _
    · rw [hw2, ← hs1]
      exact Go.heap_alloc_new w1 _
  obtain ⟨ka, kc, ca, cc, la, lc, hm⟩ := h
  obtain ⟨c0, _, _, _, _, _, _⟩ := mk_c hm.row
  clear hm X1 X2 hs1
  rw [hw1] at hw2
  subst hw1
  go_enter Tryz.func63, Tryz.ntmps63
  go_wp2_with (go_at_call 37; rw [hw2] at HL; refine Calls.mono (unhide HL) ?_; rintro e w3 ⟨rfl, hm, hf⟩; have R1 := hide hm; have F1 := hide hf; clear hm hf)
  go_ret
  rw [hw2] at HF HJ
  exact ⟨_, _, rfl, unhide R1, (unhide HF).trans (unhide F1), (unhide HJ).mf (unhide F1)⟩

theorem kiC_set : ∀ (l : List KI) (j : Nat) (i : KI) (a : Int), l[j]? = some i → (l.flatMap kiC).set (j * 3 + 1) (.int .i64 a) = (l.set j ⟨i.op, a, i.b⟩).flatMap kiC
  | [], j, i, a, h => by simp at h
  | x :: l, 0, i, a, h => by
    obtain rfl : x = i := by simpa using h
    rfl
  | x :: l, j + 1, i, a, h => by
    have ih := kiC_set l j i a (by simpa using h)
    rw [List.set_cons_succ, List.flatMap_cons, List.flatMap_cons, ← ih, show (j + 1) * 3 + 1 = (j * 3 + 1) + 3 by omega]
    rfl
theorem kiC_at : ∀ (l : List KI) (j : Nat) (i : KI), l[j]? = some i → (l.flatMap kiC)[j * 3]? = some (.int .i64 i.op) ∧ (l.flatMap kiC)[j * 3 + 1]? = some (.int .i64 i.a) ∧ (l.flatMap kiC)[j * 3 + 2]? = some (.int .i64 i.b)
  | [], j, i, h => by simp at h
  | x :: l, 0, i, h => by
    obtain rfl : x = i := by simpa using h
    exact ⟨rfl, rfl, rfl⟩
  | x :: l, j + 1, i, h => by
    have ih := kiC_at l j i (by simpa using h)
    rw [List.flatMap_cons, show (j + 1) * 3 = j * 3 + 3 by omega]
    exact ih
theorem MS.lead {ka ca la : Option Addr} {kc cc lc j : Nat} {i : KI} (h : MS g w d sv lp ka kc ca cc la lc) (hi : d.code[j]? = some i) : ∃ b, ka = some ⟨b, 0, none⟩ ∧ d.code.length ≤ kc ∧ w.cell? ⟨b, j * 3 + 1, none⟩ = some (.int .i64 i.a) ∧ w.frozen? ⟨b, j * 3 + 1, none⟩ = false ∧
    MS g (w.setCell ⟨b, j * 3 + 1, none⟩ (.int .i64 (d.code.length : Int))) (d.lead j) sv lp ka kc ca cc la lc ∧ MF g w (w.setCell ⟨b, j * 3 + 1, none⟩ (.int .i64 (d.code.length : Int))) := by
  have hlt := (List.getElem?_eq_some_iff.1 hi).1
  have hd : d.lead j = { d with code := d.code.set j ⟨i.op, (d.code.length : Int), i.b⟩ } := by unfold GM.lead; rw [hi]
  rcases id h.ok.2 with ⟨e, e0⟩ | ⟨b, cap, cur, e, hb, hg, hn, _⟩
  · omega
  · injection e with e1 e2 e3
    subst e1 e3
    obtain ⟨_, k1, _⟩ := kiC_at d.code j i hi
    have k1 := h.ok.cells (g := b) rfl _ _ k1
    have hbg : b ≠ g := by omega
    refine ⟨b, rfl, hn, by simpa [Addr.add] using k1, rowF hg _, ?_, MF.setR (MF.refl g w) h.ok (Or.inl rfl) _ _⟩
    have hlen : (d.code.set j ⟨i.op, (d.code.length : Int), i.b⟩).length = d.code.length := by simp
    have hrow : (w.setCell ⟨b, j * 3 + 1, none⟩ (.int .i64 (d.code.length : Int))).heap[g]? = w.heap[g]? := Below.heap_setCell _ _ _ _ (by show g ≠ b; omega)
    rw [hd]
    refine ⟨?_, ?_, ?_, h.cl.1, h.cl.2.to (fun q hq => ⟨hq, Below.heap_setCell _ _ _ _ (by show q ≠ b; omega)⟩)⟩
    · rw [hrow, hlen]
      exact h.row
    · have := own_setM h.ok (j * 3 + 1) (.int .i64 (d.code.length : Int))
      rw [kiC_set d.code j i _ hi] at this
      rw [hlen]
      exact this
    · rcases own_twoM h.oc h.ok (by decide) with hq | hq
      · exact own_keepM h.oc (fun q hq2 => by rw [hq] at hq2; cases hq2)
      · exact own_keepM h.oc (fun q hq2 => Below.heap_setCell _ _ _ _ (fun e3 => hq (by rw [hq2]; simp [Value.ownBlock]; first | exact e3 | exact e3.symm)))

set_option maxHeartbeats 2000000 in
theorem lead_m {j bm ba : Nat} (h : MK g w d sv lp) (hb : d.code.length ≤ 100000) (hj : j < d.code.length) (hJ : JmpAt g w j bm ba) : Calls Tryz.prog 94 #[.pointer (some ⟨bm, 0, none⟩), .pointer (some ⟨ba, 0, none⟩)] w (MAns g w (d.lead j) sv lp) := by
  have hg := h.lt
  obtain ⟨ka, kc, ca, cc, la, lc, hm⟩ := h
  obtain ⟨i, hi⟩ : ∃ i, d.code[j]? = some i := ⟨_, List.getElem?_eq_getElem hj⟩
  have XD : Ext w (World.drew w) := Ext.drew (Ext.refl w)
  obtain ⟨b, e1, hn, k1, kf, HS, HF⟩ := (hm.ext XD).lead hi
  subst e1
  have HS := hide HS
  have HF : Hd (MF g w _) := (MF.of hg XD).trans HF
  obtain ⟨c0, _, _, _, _, _, _⟩ := mk_c hm.row
  have cm := rowC hJ.m 0 rfl
  have cj := rowC hJ.a 0 rfl
  have hj2 : (j : Int) < (d.code.length : Int) := by omega
  clear hm hi hJ
  generalize d.lead j = D at *
  generalize d.code.length = n at *
  go_enter Tryz.func94, Tryz.ntmps94
  go_wp2_with fail
  go_still_tail 10, (by kernel_rfl)
  change wpList _ _ _ _ _ (World.drew w)
  go_wp2_with fail
  go_end0
  exact ⟨rfl, ⟨_, _, _, _, _, _, unhide HS⟩, unhide HF⟩

set_option maxHeartbeats 2000000 in
theorem land_nil (a : Option Addr) (c : Nat) : Calls Tryz.prog 92 #[.slice a 0 c] w fun e w' => e = .returned (.tuple #[]) ∧ w' = w := by
  go_enter Tryz.func92, Tryz.ntmps92
  go_wp2_with fail
  go_loopw [6] (fun t wr => t = .int .i64 0 ∧ wr = w) (fun _ _ => 0)
  case atStart => exact ⟨rfl, rfl⟩
  case round =>
    obtain ⟨rfl, rfl⟩ := hrel
    go_wp2_with fail
    go_end0
    exact ⟨rfl, rfl⟩

end Go.Proofs.YtlgdjeiendmniaaGreatDoor

namespace Go.Proofs.YtlgdjeiendmniaaGreatDoor
open Go.RowKit

/-- A world in which memory was made since W, nothing else. -/
structure RGw (W : World) where
  w : World
  h : Ext W w

/-- A region that draws its order, whose operations read memory that stands there and whose calls make memory alone: one walk of the text's order serves every order. -/
theorem wp_region_rx {P : Program} {id : Nat} {Q : Exit → Act → World → Prop} {a : Act} {w W : World} {l : List Oper} (hm : P.follows .mixedOrders = true) (hB : Region.lexB .any l.toArray = true) (hw : Ext W w)
    (h : wpQuiet P l.toArray (fun w' => ∃ n : RGw W, w' = n.w) (fun a' => ∀ w', (∃ n : RGw W, w' = n.w) → Q .normal a' w') l a) : (Code.region id l.toArray true).wp P Q a w :=
  wp_region_quiet (C := fun w' => ∃ n : RGw W, w' = n.w) hm hB ⟨⟨_, Ext.drew hw⟩, rfl⟩ (by simpa using h)

theorem Calls.rx_of {P : Program} {f : FuncId} {args : Array Value} {W : World} (n : RGw W) (v : Value) (h : Calls P f args n.w fun e w' => e = .returned v ∧ Ext n.w w') :
    Calls P f args n.w fun e w'' => e = .returned v ∧ ∃ m : RGw W, w'' = m.w :=
  h.mono fun _ _ ⟨he, hx⟩ => ⟨he, ⟨_, n.h.trans hx⟩, rfl⟩

end Go.Proofs.YtlgdjeiendmniaaGreatDoor
