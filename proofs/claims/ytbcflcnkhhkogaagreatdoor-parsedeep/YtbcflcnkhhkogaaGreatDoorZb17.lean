/- The operator that makes a node; how many operands it takes. · The writer of parse at expressions: as a plain function (names, small numbers, operators). · The writer of parse: an operator and its operands. -/
import Derived.Test.YtbcflcnkhhkogaaGreatDoorZb16
set_option linter.unusedSimpArgs false
set_option linter.unusedVariables false
set_option maxRecDepth 10000

namespace Go.Proofs.YtbcflcnkhhkogaaGreatDoor
open Go.RowKit

def ndHit (kd op : Int) (x : Opr) : Bool := (x.k == kd) && (x.o == op)
def ofNd (kd op : Int) : Option Opr := oprs.find? (ndHit kd op)
theorem find_stepN {kd op : Int} {j : Nat} {x : Opr} (h : oprs[j]? = some x) (hn : ∀ y ∈ oprs.take j, ndHit kd op y = false) : if ndHit kd op x then ofNd kd op = some x else ∀ y ∈ oprs.take (j + 1), ndHit kd op y = false := by
  obtain ⟨hj, hx0⟩ := List.getElem?_eq_some_iff.1 h
  have hd : oprs = oprs.take j ++ x :: oprs.drop (j + 1) := by
    rw [← hx0, ← List.drop_eq_getElem_cons hj, List.take_append_drop]
  split
  · rename_i hx
    unfold ofNd
    rw [hd, List.find?_append, List.find?_eq_none.2 (fun y hy => by rw [hn y hy]; decide)]
    simp [hx]
  · rename_i hx
    intro y hy
    rw [List.take_succ_eq_append_getElem hj, hx0] at hy
    rcases List.mem_append.1 hy with hy | hy
    · exact hn y hy
    · rw [List.mem_singleton.1 hy]; simpa using hx
theorem find_noneN {kd op : Int} (hn : ∀ y ∈ oprs.take 16, ndHit kd op y = false) : ofNd kd op = none :=
  List.find?_eq_none.2 (fun y hy => by rw [hn y hy]; decide)

set_option maxHeartbeats 2000000 in
theorem ofNode_any (kd op : Int) (w : World) (hO : Opx w) :
    Calls Tryz.prog 96 #[.int .i64 kd, .int .i64 op] w fun e w' => e = .returned (.tuple #[oprV ((ofNd kd op).getD oprZ), .bool (ofNd kd op).isSome]) ∧ Ext w w' := by
  have HL := hide (hO.ext (Ext.alloc w (.cells #[.string ⟨#[]⟩, .int .i64 0, .int .i64 0, .int .i64 0] 78)))
  have HX := hide opx_at
  have HZ : Hd ((Tryz.prog.info? 125).map (·.size) = some opTab.length) := by unfold Hd; kernel_rfl
  unfold Opx at HL
  generalize opTab = tab at HL HX HZ
  clear hO
  go_enter Tryz.func96, Tryz.ntmps96
  go_wp2_with (refine wpList_load_mid rfl 125 (.global 0) rfl 0 0 rfl tab _ (unhide HL) Tryz.underlying125 rfl (unhide HZ) ?_)
  go_loopw [9] (fun i wr => ∃ j : Nat, i = .int .i64 j ∧ j ≤ 16 ∧ Hd (∀ y ∈ oprs.take j, ndHit kd op y = false) ∧ Hd (Ext w wr) ∧ Hd (wr.heap[w.heap.size]? = some (oprO oprZ))) (fun i _ => 16 - (intOf i).toNat)
  case atStart => exact ⟨0, rfl, by omega, fun y hy => by simp at hy, Ext.alloc _ _, Go.heap_alloc_new w _⟩
  case round =>
    obtain ⟨j, rfl, hj, hN, hE, hR⟩ := hrel
    by_cases hlt : j < 16
    · obtain ⟨x, hx⟩ : ∃ x, oprs[j]? = some x := ⟨_, List.getElem?_eq_getElem hlt⟩
      have hix := unhide HX j x hx
      have hst := find_stepN hx (unhide hN)
      cases h1 : (x.k == kd)
      · have hh : ndHit kd op x = false := by unfold ndHit; rw [h1]; rfl
        rw [hh, if_neg (by decide)] at hst
        have HN2 := hide hst
        clear hst hh hx
        go_wp2
        go_roundw
        case rel => exact ⟨j + 1, by go_num, by omega, HN2, (unhide hE).trans (Ext.alloc _ _), (Ext.alloc _ _).row (unhide hR)⟩
        case measure => simp [intOf]; omega
      · cases h2 : (x.o == op)
        · have hh : ndHit kd op x = false := by unfold ndHit; rw [h1, h2]; rfl
          rw [hh, if_neg (by decide)] at hst
          have HN2 := hide hst
          clear hst hh hx
          go_wp2
          go_roundw
          case rel => exact ⟨j + 1, by go_num, by omega, HN2, (unhide hE).trans (Ext.alloc _ _), (Ext.alloc _ _).row (unhide hR)⟩
          case measure => simp [intOf]; omega
        · have hh : ndHit kd op x = true := by unfold ndHit; rw [h1, h2]; rfl
          rw [hh, if_pos rfl] at hst
          have HST := hide hst
          have r0 := rowC (unhide hR) 0 rfl
          have r1 := rowC (unhide hR) 1 rfl
          have r2 := rowC (unhide hR) 2 rfl
          have r3 := rowC (unhide hR) 3 rfl
          have rz := rowF (unhide hR)
          have hlt2 : w.heap.size < wr.heap.size := (Array.getElem?_eq_some_iff.1 (unhide hR)).1
          have q0 := setO_past (unhide hR) x 0 _ rfl
          have q1 := setO_past (unhide hR) x 1 _ rfl
          have q2 := setO_past (unhide hR) x 2 _ rfl
          have q3 := setO_past (unhide hR) x 3 _ rfl
          clear hst hh hx
          go_wp2
          exact bodyPost_ret (v := .tuple #[oprV x, .bool true]) (by simp [results, Tryz.results96, go_sem, q0, q1, q2, q3]) rfl ⟨by rw [unhide HST]; rfl, (setO_ext (unhide hE) _ (Nat.le_refl _) _).trans (Ext.alloc _ _)⟩
    · have : j = 16 := by omega
      subst this
      have HST := hide (find_noneN (unhide hN))
      have r0 := rowC (unhide hR) 0 rfl
      have r1 := rowC (unhide hR) 1 rfl
      have r2 := rowC (unhide hR) 2 rfl
      have r3 := rowC (unhide hR) 3 rfl
      have rz := rowF (unhide hR)
      go_wp2
      exact bodyPost_ret (v := .tuple #[oprV oprZ, .bool false]) (by simp [results, Tryz.results96, go_sem, r0, r1, r2, r3, oprZ]) rfl ⟨by rw [unhide HST]; rfl, setO_ext (unhide hE) _ (Nat.le_refl _) oprZ⟩

set_option maxHeartbeats 1000000 in
theorem places_any (o : Opr) (w : World) : Calls Tryz.prog 97 #[oprV o] w fun e w' => e = .returned (.int .i64 (if o.lv = 6 then 1 else 2)) ∧ Ext w w' := by
  obtain ⟨s, lv, k, op⟩ := o
  by_cases h : lv = 6
  · subst h
    rw [if_pos rfl]
    go_enter Tryz.func97, Tryz.ntmps97
    go_wp2_with fail
    go_ret
    exact ⟨rfl, Ext.alloc _ _⟩
  · have hb : (lv == 6) = false := by rw [beq_eq_false_iff_ne]; exact h
    have e : (if (Opr.mk s lv k op).lv = 6 then (1 : Int) else 2) = 2 := if_neg h
    rw [e]
    clear h e
    go_enter Tryz.func97, Tryz.ntmps97
    go_wp2_with fail
    go_ret
    exact ⟨rfl, Ext.alloc _ _⟩

end Go.Proofs.YtbcflcnkhhkogaaGreatDoor

namespace Go.Proofs.YtbcflcnkhhkogaaGreatDoor
open Go.RowKit

/-- What a writer has: its text, whether there can be none, how many nodes. -/
abbrev WS3 : Type := (List UInt8 × Bool) × Int
def wW (x : WS3) (ss : List ByteArray) : WS3 := (wdsS x.1 ss, x.2)
/-- An operator and its operands. -/
def wJ (E : PN → Int → WS3 → Option WS3) (o : Opr) (l : List PN) (x : WS3) : Option WS3 :=
  if o.lv = 6 then (match l with
    | [a] => E a 6 (wW x [o.s])
    | _ => none)
  else match l with
    | [a, b] =>
      if o.lv = 7 then (match E a 7 x with
        | none => none
        | some y => match E b 1 (wW y [⟨#[91]⟩]) with
          | none => none
          | some z => some (wW z [⟨#[93]⟩]))
      else if o.lv = 3 then (match E a 4 x with
        | none => none
        | some y => E b 4 (wW y [o.s]))
      else (match E a o.lv x with
        | none => none
        | some y => E b (o.lv + 1) (wW y [o.s]))
    | _ => none
/-- A node with an operator. -/
def wO (E : PN → Int → WS3 → Option WS3) (p : PN) (least : Int) (x : WS3) : Option WS3 :=
  match ofNd p.k p.o with
  | none => some ((x.1.1, true), x.2)
  | some o => if (p.l.length : Int) = (if o.lv = 6 then 1 else 2) then
      (if least ≤ o.lv then wJ E o p.l x else (match wJ E o p.l (wW x [⟨#[40]⟩]) with
        | none => none
        | some y => some (wW y [⟨#[41]⟩])))
    else some ((x.1.1, true), x.2)
def dig1 (n : Int) : ByteArray := ⟨#[UInt8.ofNat (48 + n.toNat)]⟩
def wE : Nat → PN → Int → WS3 → Option WS3
  | 0, _, _, _ => none
  | f + 1, p, least, x =>
    if 0 ≤ x.2 ∧ x.2 ≤ 100000 ∧ p.s.size ≤ 100000000 then
      (if entN x.2 x.1.2 then some ((x.1.1, true), x.2 + 1)
      else if p.k = 11 ∨ p.k = 12 ∨ p.k = 13 ∨ p.k = 14 then wO (wE f) p least ((x.1.1, false), x.2 + 1)
      else if p.k = 15 then (if 0 ≤ p.n ∧ p.n < 10 then some (wW ((x.1.1, false), x.2 + 1) [dig1 p.n]) else none)
      else if p.k = 18 then some (wW ((x.1.1, false), x.2 + 1) [⟨#[110, 105, 108]⟩])
      else if p.k = 19 then some (wW ((x.1.1, false), x.2 + 1) [p.s])
      else none)
    else none

/-- What a call of one of the writer's functions leaves. -/
def WrE (g : Nat) (w : World) (y : WS3) (e : Ending) (w' : World) : Prop := e = .returned (.tuple #[]) ∧ Wr w' g y.1.1 y.2 y.1.2 ∧ y.1.1.length ≤ 4000 ∧ WrK g w w'
/-- A writer that stands so, the tree below it. -/
structure WrI (w : World) (g : Nat) (x : WS3) : Prop where
  wr : Wr w g x.1.1 x.2 x.1.2
  len : x.1.1.length ≤ 4000
  op : Opx w
  pos : 0 < g
theorem Opx.wrk {g : Nat} {w w' : World} (h : Opx w) (k : WrK g w w') (hg : 0 < g) : Opx w' := fun j v hv => by
  rw [World.cell?_of_block (w := w) (k.low _ hg)]
  exact h j v hv
theorem WrI.go {g : Nat} {w w' : World} {x y : WS3} (h : WrI w g x) (k : WrK g w w') (s : Wr w' g y.1.1 y.2 y.1.2) (hl : y.1.1.length ≤ 4000) : WrI w' g y := ⟨s, hl, h.op.wrk k h.pos, h.pos⟩
theorem WrI.ext {g : Nat} {w w' : World} {x : WS3} (h : WrI w g x) (k : Ext w w') : WrI w' g x := ⟨h.wr.ext k, h.len, h.op.ext k, h.pos⟩
theorem RepN.wrk {g : Nat} {w w' : World} {p : PN} {v : Value} (h : RepN w (fun b => b < g) p v) (k : WrK g w w') : RepN w' (fun b => b < g) p v := RepN.to (fun b hb => ⟨hb, k.low b hb⟩) p v h
theorem RepNL.wrk {g : Nat} {w w' : World} {l : List PN} {a : Option Addr} (h : RepNL w (fun b => b < g) l a) (k : WrK g w w') : RepNL w' (fun b => b < g) l a := RepNL.to (fun b hb => ⟨hb, k.low b hb⟩) l a h
theorem RepN.low' {g : Nat} {w w' : World} {p : PN} {v : Value} (h : RepN w (fun b => b < g) p v) (hg : g ≤ w.heap.size) (k : Ext w w') : RepN w' (fun b => b < g) p v := RepN.to (fun b hb => ⟨hb, k.block b (by omega)⟩) p v h

/-- Some words at a call that has laid their row last. -/
theorem words_new (g : Nat) (x : WS3) (ss : List ByteArray) (w : World) (h : WrI w g x) (hs : ∀ s ∈ ss, s.size ≤ 100000000) (hn : ss.length ≤ 1000) :
    Calls Tryz.prog 65 #[.pointer (some ⟨g, 0, none⟩), .slice (some ⟨w.heap.size, 0, none⟩) ss.length ss.length] (w.alloc (.cells (ss.map Value.string).toArray 9)) (WrE g w (wW x ss)) := by
  have hg := h.wr.lt
  refine Calls.mono (words_any g x.1 x.2 ss w.heap.size ss.length _ (h.wr.ext (Ext.alloc _ _)) h.len hs (Go.heap_alloc_new w _) (by omega) hn) ?_
  rintro e w' ⟨rfl, h2, h3⟩
  exact ⟨rfl, h2, wdsS_len ss h.len, (WrK.ext (Ext.alloc _ _) hg).trans h3⟩
theorem words1 (g : Nat) (x : WS3) (s : ByteArray) (w : World) (k : Nat) (hk : k = w.heap.size) (h : WrI w g x) (hs : s.size ≤ 100000000) :
    Calls Tryz.prog 65 #[.pointer (some ⟨g, 0, none⟩), .slice (some ⟨k, 0, none⟩) 1 1] (w.alloc (.cells #[.string s] 9)) (WrE g w (wW x [s])) := by
  subst hk
  exact words_new g x [s] w h (fun t ht => by rw [List.mem_singleton.1 ht]; exact hs) (by simp)

/-- What is asked of the function that lays down an expression. -/
def ExW (g : Nat) (E : PN → Int → WS3 → Option WS3) : Prop := ∀ (p : PN) (least : Int) (x y : WS3) (v : Value) (W : World), E p least x = some y → WrI W g x → RepN W (fun b => b < g) p v → Calls Tryz.prog 31 #[.pointer (some ⟨g, 0, none⟩), v, .int .i64 least] W (WrE g W y)

theorem oprO_not {w : World} {k : Nat} {o : Opr} (h : w.heap[k]? = some (oprO o)) : NotB (w.heap[k]?) := by
  intro cs f e
  rw [h] at e
  injection e with e
  injection e with _ e _
  exact absurd e (by decide)
theorem nodO_not {w : World} {k : Nat} {cs : Array Value} (h : w.heap[k]? = some (.cells cs 25 (0, 0))) : NotB (w.heap[k]?) := by
  intro cs f e
  rw [h] at e
  injection e with e
  injection e with _ e _
  exact absurd e (by decide)
/-- The cells of a tree in a list, in a world behind. -/
theorem repNL_at {w : World} {F : Nat → Prop} : ∀ {l : List PN} {a : Option Addr}, RepNL w F l a → ∀ (i : Nat) (p : PN), l[i]? = some p → ∃ b off c0 c1 c2 c3 c4, a = some ⟨b, off, none⟩ ∧ F b ∧ RepN w F p (.agg #[c0, c1, c2, c3, c4]) ∧
      w.cell? ⟨b, off + i * 5, none⟩ = some c0 ∧ w.cell? ⟨b, off + i * 5 + 1, none⟩ = some c1 ∧ w.cell? ⟨b, off + i * 5 + 2, none⟩ = some c2 ∧ w.cell? ⟨b, off + i * 5 + 3, none⟩ = some c3 ∧ w.cell? ⟨b, off + i * 5 + 4, none⟩ = some c4 := by
  intro l
  induction l with
  | nil => intro a _ i p h; simp at h
  | cons x xs ih =>
    intro a h i p hp
    rw [RepNL] at h
    obtain ⟨b, off, c0, c1, c2, c3, c4, rfl, hf, hr, h0, h1, h2, h3, h4, hrest⟩ := h
    cases i with
    | zero =>
      simp at hp
      subst hp
      refine ⟨b, off, c0, c1, c2, c3, c4, rfl, hf, hr, ?_⟩
      rw [Nat.zero_mul, Nat.add_zero]
      exact ⟨h0, h1, h2, h3, h4⟩
    | succ j =>
      simp at hp
      obtain ⟨b', off', d0, d1, d2, d3, d4, he, r⟩ := ih hrest j p hp
      injection he with he
      injection he with e1 e2
      subst e1 e2
      refine ⟨b, off, d0, d1, d2, d3, d4, rfl, ?_⟩
      rw [show off + (j + 1) * 5 = off + 5 + j * 5 by omega]
      exact r

end Go.Proofs.YtbcflcnkhhkogaaGreatDoor

namespace Go.Proofs.YtbcflcnkhhkogaaGreatDoor
open Go.RowKit

/-- The five cells of one tree of a list, in whatever world the writer has come to. -/
def Ch5 (W : World) (b off : Nat) (c0 c1 c2 c3 c4 : Value) : Prop := W.cell? ⟨b, off, none⟩ = some c0 ∧ W.cell? ⟨b, off + 1, none⟩ = some c1 ∧ W.cell? ⟨b, off + 2, none⟩ = some c2 ∧ W.cell? ⟨b, off + 3, none⟩ = some c3 ∧ W.cell? ⟨b, off + 4, none⟩ = some c4

theorem enterExpr (v u t : Value) (W : World) : (callFunc 31 #[v, u, t]).run Tryz.prog W = .ok (.enter 31 #[v, u, t]) W := by kernel_rfl
/-- A call as one step of a region that draws its order, also where it is guarded. -/
theorem step_call_xs {P : Program} {w : World} {ops : Array Oper} {o : Oper} {a : Act} {K : Act → World → Prop} {Q : Exit → Act → World → Prop} {E : Prop}
    (f : FuncId) (xs : Array Operand) (ts : Array TypeId) (hop : o.op = Op.call { callee := Callee.value (.func f), args := xs, argTypes := ts })
    (vs : Array Value) (hx : xs.map a.eval = vs) (hw : Region.wanted o (yielded ops a.tmps) = true) (hf : (callFunc f vs).run P w = .ok (.enter f vs) w) (hK : Calls P f vs w fun e w' => ∃ u, e = .returned u ∧ K (a.put o.dst u) w') :
    if Region.wanted o (yielded ops a.tmps) = true then Oper.wp P o a w K Q else E := by
  rw [if_pos hw]
  have he : a.eval (.func f) = .func (.func f) #[] #[] := rfl
  unfold Oper.wp
  have hrun : (execOp a.eval o).run P w = .ok (.enter f vs) w := by
    simp [execOp, hop, resolve, invoke, hx, he, Result.andThen, Deferred.ofValue, hf]
  rw [hrun, Oper.upon_enter]
  refine hK.mono ?_
  rintro e w' ⟨u, rfl, h⟩
  exact h

set_option maxHeartbeats 1000000 in
theorem joined_w (g : Nat) (E : PN → Int → WS3 → Option WS3) (o : Opr) (l : List PN) (a : Option Addr) (cap : Nat) (x y : WS3) (w : World) (I : WrI w g x) (hN : RepNL w (fun b => b < g) l a) (hE : ExW g E) (ho : o.s.size ≤ 1000) (hlv : 1 ≤ o.lv ∧ o.lv ≤ 7) (hy : wJ E o l x = some y) :
    Calls Tryz.prog 98 #[.pointer (some ⟨g, 0, none⟩), oprV o, .slice a l.length cap] w (WrE g w y) := by
  have HE := hide hE
  have hg := I.wr.lt
  have HW1 : Hd (WrK g w (w.alloc (oprO o))) := WrK.ext (Ext.alloc _ _) hg
  have X0 : Hd (WrI (w.alloc (oprO o)) g x) := I.ext (Ext.alloc _ _)
  have K0 : Hd (WrK g (w.alloc (oprO o)) (w.alloc (oprO o))) := WrK.refl _ _
  have HBx : Hd (∀ W, WrK g (w.alloc (oprO o)) W → W.cell? ⟨w.heap.size, 0, none⟩ = some (.string o.s) ∧ W.cell? ⟨w.heap.size, 1, none⟩ = some (.int .i64 o.lv)) := fun W k => by
    have h0 := Go.heap_alloc_new w (oprO o)
    have hr := (k.keep w.heap.size (by rw [size_alloc]; omega) (by omega) (oprO_not h0)).trans h0
    exact ⟨rowC hr 0 rfl, rowC hr 1 rfl⟩
  have ho2 : o.s.size ≤ 100000000 := by omega
  have HO := hide ho2
  clear I hE hg ho ho2
  unfold wJ at hy
  by_cases h6 : o.lv = 6
  · rw [if_pos h6] at hy
    match l, hy, hN with
    | [p], hy', hN' =>
      clear hy hN
      have hy := hy'
      have hN := hN'
      clear hy' hN'
      simp only at hy
      obtain ⟨b, off, c0, c1, c2, c3, c4, rfl, hb, hr, e0, e1, e2, e3, e4⟩ := repNL_at hN 0 p rfl
      rw [Nat.zero_mul, Nat.add_zero] at e0 e1 e2 e3 e4
      have HC0 : Hd (∀ W, WrK g (w.alloc (oprO o)) W → Ch5 W b off c0 c1 c2 c3 c4) := fun W k => by
        have hk := ((unhide HW1).trans k).low b hb
        refine ⟨?_, ?_, ?_, ?_, ?_⟩ <;> (rw [World.cell?_of_block (w := w) hk]; assumption)
      have HT0 : Hd (∀ W, WrK g (w.alloc (oprO o)) W → RepN W (fun b => b < g) p (.agg #[c0, c1, c2, c3, c4])) := fun W k => hr.wrk ((unhide HW1).trans k)
      have HY0 := hide hy
      obtain ⟨d00, d01, d02, d03, d04⟩ := unhide HC0 _ (unhide K0)
      clear hy hN hr e0 e1 e2 e3 e4
      have hl1 : ([p] : List PN).length = 1 := rfl
      rw [hl1]
      obtain ⟨os, olv, okd, oop⟩ := o
      simp only at h6 HW1 X0 K0 HBx HC0 HT0 HY0 HO hlv
      subst h6
      go_enter Tryz.func98, Tryz.ntmps98
      go_wp2_with (first
        | (have T9 := unhide X0; go_at_call 65; refine Calls.mono (words1 g _ os _ _ (by first | rfl | simp) T9 (unhide HO)) ?_; rintro e w1 ⟨rfl, h9, l9, k9⟩; have K1 := hide ((unhide K0).trans k9); have X1 := hide ((unhide X0).go k9 h9 l9); obtain ⟨rb0, rb1⟩ := unhide HBx _ (unhide K1); obtain ⟨d00, d01, d02, d03, d04⟩ := unhide HC0 _ (unhide K1); clear h9 l9 k9 T9 X0)
        | (have T9 := unhide X1; go_at_call 31; refine Calls.mono (unhide HE _ 6 _ _ _ _ (unhide HY0) T9 (unhide HT0 _ (unhide K1))) ?_; rintro e w2 ⟨rfl, h9, l9, k9⟩; have K2 := hide ((unhide K1).trans k9); have X2 := hide ((unhide X1).go k9 h9 l9); obtain ⟨rb0, rb1⟩ := unhide HBx _ (unhide K2); obtain ⟨d00, d01, d02, d03, d04⟩ := unhide HC0 _ (unhide K2); clear h9 l9 k9 T9 X1))
      go_end0
      exact ⟨rfl, (unhide X2).wr, (unhide X2).len, (unhide HW1).trans (unhide K2)⟩
  · rw [if_neg h6] at hy
    match l, hy, hN with
    | [p, r], hy', hN' =>
      clear hy hN
      have hy := hy'
      have hN := hN'
      clear hy' hN'
      simp only at hy
      obtain ⟨b, off, c0, c1, c2, c3, c4, rfl, hb, hr, e0, e1, e2, e3, e4⟩ := repNL_at hN 0 p rfl
      obtain ⟨b2, off2, f0, f1, f2, f3, f4, he, _, hr2, g0, g1, g2, g3, g4⟩ := repNL_at hN 1 r rfl
      injection he with he
      injection he with he1 he2
      subst he1 he2
      rw [Nat.zero_mul, Nat.add_zero] at e0 e1 e2 e3 e4
      rw [Nat.one_mul] at g0 g1 g2 g3 g4
      have HC0 : Hd (∀ W, WrK g (w.alloc (oprO o)) W → Ch5 W b off c0 c1 c2 c3 c4) := fun W k => by
        have hk := ((unhide HW1).trans k).low b hb
        refine ⟨?_, ?_, ?_, ?_, ?_⟩ <;> (rw [World.cell?_of_block (w := w) hk]; assumption)
      have HC1 : Hd (∀ W, WrK g (w.alloc (oprO o)) W → Ch5 W b (off + 5) f0 f1 f2 f3 f4) := fun W k => by
        have hk := ((unhide HW1).trans k).low b hb
        refine ⟨?_, ?_, ?_, ?_, ?_⟩ <;> (rw [World.cell?_of_block (w := w) hk]; assumption)
      have HT0 : Hd (∀ W, WrK g (w.alloc (oprO o)) W → RepN W (fun b => b < g) p (.agg #[c0, c1, c2, c3, c4])) := fun W k => hr.wrk ((unhide HW1).trans k)
      have HT1 : Hd (∀ W, WrK g (w.alloc (oprO o)) W → RepN W (fun b => b < g) r (.agg #[f0, f1, f2, f3, f4])) := fun W k => hr2.wrk ((unhide HW1).trans k)
      obtain ⟨d00, d01, d02, d03, d04⟩ := unhide HC0 _ (unhide K0)
      obtain ⟨d10, d11, d12, d13, d14⟩ := unhide HC1 _ (unhide K0)
      clear hN hr hr2 e0 e1 e2 e3 e4 g0 g1 g2 g3 g4
      have hl1 : ([p, r] : List PN).length = 2 := rfl
      rw [hl1]
      obtain ⟨os, olv, okd, oop⟩ := o
      simp only at h6 HW1 X0 K0 HBx HC0 HC1 HT0 HT1 HO hy hlv
      by_cases h7 : olv = 7
      · rw [if_pos h7] at hy
        subst h7
        cases hq : E p 7 x with
        | none => rw [hq] at hy; cases hy
        | some z =>
        rw [hq] at hy
        simp only at hy
        cases hq2 : E r 1 (wW z [⟨#[91]⟩]) with
        | none => rw [hq2] at hy; cases hy
        | some u =>
        rw [hq2] at hy
        injection hy with hy
        subst hy
        have HY0 := hide hq
        have HY1 := hide hq2
        clear hq hq2 h6
        go_enter Tryz.func98, Tryz.ntmps98
        go_wp2_with (first
          | (have T9 := unhide X0; go_at_call 31; refine Calls.mono (unhide HE _ 7 _ _ _ _ (unhide HY0) T9 (unhide HT0 _ (unhide K0))) ?_; rintro e w1 ⟨rfl, h9, l9, k9⟩; have K1 := hide ((unhide K0).trans k9); have X1 := hide ((unhide X0).go k9 h9 l9); obtain ⟨rb0, rb1⟩ := unhide HBx _ (unhide K1); obtain ⟨d00, d01, d02, d03, d04⟩ := unhide HC0 _ (unhide K1); obtain ⟨d10, d11, d12, d13, d14⟩ := unhide HC1 _ (unhide K1); clear h9 l9 k9 T9 X0)
          | (have T9 := unhide X1; go_at_call 65; refine Calls.mono (words1 g _ ⟨#[91]⟩ _ _ (by first | rfl | simp) T9 (by decide)) ?_; rintro e w2 ⟨rfl, h9, l9, k9⟩; have K2 := hide ((unhide K1).trans k9); have X2 := hide ((unhide X1).go k9 h9 l9); obtain ⟨rb0, rb1⟩ := unhide HBx _ (unhide K2); obtain ⟨d00, d01, d02, d03, d04⟩ := unhide HC0 _ (unhide K2); obtain ⟨d10, d11, d12, d13, d14⟩ := unhide HC1 _ (unhide K2); clear h9 l9 k9 T9 X1)
          | (have T9 := unhide X2; go_at_call 31; refine Calls.mono (unhide HE _ 1 _ _ _ _ (unhide HY1) T9 (unhide HT1 _ (unhide K2))) ?_; rintro e w3 ⟨rfl, h9, l9, k9⟩; have K3 := hide ((unhide K2).trans k9); have X3 := hide ((unhide X2).go k9 h9 l9); obtain ⟨rb0, rb1⟩ := unhide HBx _ (unhide K3); obtain ⟨d00, d01, d02, d03, d04⟩ := unhide HC0 _ (unhide K3); obtain ⟨d10, d11, d12, d13, d14⟩ := unhide HC1 _ (unhide K3); clear h9 l9 k9 T9 X2)
          | (have T9 := unhide X3; go_at_call 65; refine Calls.mono (words1 g _ ⟨#[93]⟩ _ _ (by first | rfl | simp) T9 (by decide)) ?_; rintro e w4 ⟨rfl, h9, l9, k9⟩; have K4 := hide ((unhide K3).trans k9); have X4 := hide ((unhide X3).go k9 h9 l9); obtain ⟨rb0, rb1⟩ := unhide HBx _ (unhide K4); obtain ⟨d00, d01, d02, d03, d04⟩ := unhide HC0 _ (unhide K4); obtain ⟨d10, d11, d12, d13, d14⟩ := unhide HC1 _ (unhide K4); clear h9 l9 k9 T9 X3))
        go_end0
        exact ⟨rfl, (unhide X4).wr, (unhide X4).len, (unhide HW1).trans (unhide K4)⟩
      · rw [if_neg h7] at hy
        by_cases h3 : olv = 3
        · rw [if_pos h3] at hy
          subst h3
          cases hq : E p 4 x with
          | none => rw [hq] at hy; cases hy
          | some z =>
          rw [hq] at hy
          simp only at hy
          have HY0 := hide hq
          have HY1 := hide hy
          clear hq hy h6 h7
          go_enter Tryz.func98, Tryz.ntmps98
          go_wp2_with (first
            | (have T9 := unhide X0; go_at_call 31; refine Calls.mono (unhide HE _ 4 _ _ _ _ (unhide HY0) T9 (unhide HT0 _ (unhide K0))) ?_; rintro e w1 ⟨rfl, h9, l9, k9⟩; have K1 := hide ((unhide K0).trans k9); have X1 := hide ((unhide X0).go k9 h9 l9); obtain ⟨rb0, rb1⟩ := unhide HBx _ (unhide K1); obtain ⟨d00, d01, d02, d03, d04⟩ := unhide HC0 _ (unhide K1); obtain ⟨d10, d11, d12, d13, d14⟩ := unhide HC1 _ (unhide K1); clear h9 l9 k9 T9 X0)
            | (have T9 := unhide X1; go_at_call 65; refine Calls.mono (words1 g _ os _ _ (by first | rfl | simp) T9 (unhide HO)) ?_; rintro e w2 ⟨rfl, h9, l9, k9⟩; have K2 := hide ((unhide K1).trans k9); have X2 := hide ((unhide X1).go k9 h9 l9); obtain ⟨rb0, rb1⟩ := unhide HBx _ (unhide K2); obtain ⟨d00, d01, d02, d03, d04⟩ := unhide HC0 _ (unhide K2); obtain ⟨d10, d11, d12, d13, d14⟩ := unhide HC1 _ (unhide K2); clear h9 l9 k9 T9 X1)
            | (have T9 := unhide X2; go_at_call 31; refine Calls.mono (unhide HE _ 4 _ _ _ _ (unhide HY1) T9 (unhide HT1 _ (unhide K2))) ?_; rintro e w3 ⟨rfl, h9, l9, k9⟩; have K3 := hide ((unhide K2).trans k9); have X3 := hide ((unhide X2).go k9 h9 l9); obtain ⟨rb0, rb1⟩ := unhide HBx _ (unhide K3); obtain ⟨d00, d01, d02, d03, d04⟩ := unhide HC0 _ (unhide K3); obtain ⟨d10, d11, d12, d13, d14⟩ := unhide HC1 _ (unhide K3); clear h9 l9 k9 T9 X2))
          go_end0
          exact ⟨rfl, (unhide X3).wr, (unhide X3).len, (unhide HW1).trans (unhide K3)⟩
        · rw [if_neg h3] at hy
          cases hq : E p olv x with
          | none => rw [hq] at hy; cases hy
          | some z =>
          rw [hq] at hy
          simp only at hy
          have HY0 := hide hq
          have HY1 := hide hy
          have n6 : (olv == 6) = false := by rw [beq_eq_false_iff_ne]; exact h6
          have n7 : (olv == 7) = false := by rw [beq_eq_false_iff_ne]; exact h7
          have n3 : (olv == 3) = false := by rw [beq_eq_false_iff_ne]; exact h3
          clear hq hy h6 h7 h3
          have hwr : IntKind.i64.wrap (olv + 1) = olv + 1 := by
            rcases (show olv = 1 ∨ olv = 2 ∨ olv = 3 ∨ olv = 4 ∨ olv = 5 ∨ olv = 6 ∨ olv = 7 by omega) with rfl | rfl | rfl | rfl | rfl | rfl | rfl <;> rfl
          have HWR := hide hwr
          clear hwr
          go_enter Tryz.func98, Tryz.ntmps98
          go_wp2_with fail
          have X0d : Hd (WrI (w.alloc (oprO ⟨os, olv, okd, oop⟩)).drew g x) := (unhide X0).ext (Ext.drew (Ext.refl _))
          have K0d : Hd (WrK g (w.alloc (oprO ⟨os, olv, okd, oop⟩)) (w.alloc (oprO ⟨os, olv, okd, oop⟩)).drew) := (unhide K0).drew
          refine wp_nrm ?_
          first | skip; go_region_law (refine step_call_xs 31 #[.tmp 8, .tmp 11, .tmp 13] #[96, 25, 3] rfl #[.pointer (some ⟨g, 0, none⟩), .agg #[c0, c1, c2, c3, c4], .int .i64 olv] (by simp [Act.eval, Act.put]) (by simp [Region.wanted, yielded, Act.put]) (enterExpr _ _ _ _) (Calls.mono (unhide HE _ olv _ _ _ _ (unhide HY0) (unhide X0d) (unhide HT0 _ (unhide K0d))) ?_); rintro e w1 ⟨rfl, h9, l9, k9⟩; have K1 := hide ((unhide K0d).trans k9); have X1 := hide ((unhide X0d).go k9 h9 l9); obtain ⟨rb0, rb1⟩ := unhide HBx _ (unhide K1); clear h9 l9 k9; refine ⟨_, rfl, ?_⟩) | fail
          all_goals
            simp only [Nrm]
            go_wp2_with (have T9 := unhide X1; go_at_call 65; refine Calls.mono (words1 g _ os _ _ (by first | rfl | simp) T9 (unhide HO)) ?_; rintro e w2 ⟨rfl, h9, l9, k9⟩; have K2 := hide ((unhide K1).trans k9); have X2 := hide ((unhide X1).go k9 h9 l9); obtain ⟨rb0, rb1⟩ := unhide HBx _ (unhide K2); obtain ⟨d10, d11, d12, d13, d14⟩ := unhide HC1 _ (unhide K2); clear h9 l9 k9 T9 X1)
            have X2d : Hd (WrI w2.drew g (wW z [os])) := (unhide X2).ext (Ext.drew (Ext.refl _))
            have K2d : Hd (WrK g (w.alloc (oprO ⟨os, olv, okd, oop⟩)) w2.drew) := (unhide K2).drew
            refine wp_nrm ?_
            first | skip; go_region_law (refine step_call_xs 31 #[.tmp 20, .tmp 23, .tmp 26] #[96, 25, 3] rfl #[.pointer (some ⟨g, 0, none⟩), .agg #[f0, f1, f2, f3, f4], .int .i64 (olv + 1)] (by simp [Act.eval, Act.put, unhide HWR]) (by simp [Region.wanted, yielded, Act.put]) (enterExpr _ _ _ _) (Calls.mono (unhide HE _ (olv + 1) _ _ _ _ (unhide HY1) (unhide X2d) (unhide HT1 _ (unhide K2d))) ?_); rintro e w3 ⟨rfl, h9, l9, k9⟩; have K3 := hide ((unhide K2d).trans k9); have X3 := hide ((unhide X2d).go k9 h9 l9); clear h9 l9 k9; refine ⟨_, rfl, ?_⟩) | fail
            all_goals
              simp only [Nrm]
              go_end0
              exact ⟨rfl, (unhide X3).wr, (unhide X3).len, (unhide HW1).trans (unhide K3)⟩

end Go.Proofs.YtbcflcnkhhkogaaGreatDoor
