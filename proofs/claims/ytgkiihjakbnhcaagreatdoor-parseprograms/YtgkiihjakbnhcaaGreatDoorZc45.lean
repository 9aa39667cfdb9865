/- Two trees that are the same. · Show at a tree whose text is read as it again. · The writer of parse at statements, blocks and functions: as plain functions (what expr leaves none of is left none). · The writer of parse: the end of a statement, what is answered, what is guarded. -/
import Derived.Test.YtgkiihjakbnhcaaGreatDoorZc44
import Derived.Test.YtgkiihjakbnhcaaGreatDoorZc41
import Derived.Test.YtgkiihjakbnhcaaGreatDoorZc6
import Derived.Test.YtgkiihjakbnhcaaGreatDoorZc43
set_option linter.unusedSimpArgs false
set_option linter.unusedVariables false
set_option maxRecDepth 10000

namespace Go.Proofs.YtgkiihjakbnhcaaGreatDoor
open Go.RowKit

theorem PN.byList {M : PN → Prop} (h : ∀ k o s n l, (∀ x ∈ l, M x) → M (.mk k o s n l)) : ∀ p, M p := by
  have go : ∀ (m : Nat) (p : PN), SizeOf.sizeOf p ≤ m → M p := by
    intro m
    induction m with
    | zero =>
      intro p hp
      cases p with
      | mk k o s n l => simp at hp
    | succ m ih =>
      intro p hp
      cases p with
      | mk k o s n l =>
        refine h k o s n l fun x hx => ih x ?_
        have := List.sizeOf_lt_of_mem hx
        simp at hp
        omega
  exact fun p => go _ p (Nat.le_refl _)

def InW (w : World) : Nat → Prop := fun b => b < w.heap.size
theorem RepN.inw {w w' : World} {p : PN} {v : Value} (h : RepN w (InW w) p v) (k : Ext w w') : RepN w' (InW w') p v := RepN.to (fun b hb => ⟨Nat.lt_of_lt_of_le hb k.size, k.block b hb⟩) p v h
theorem RepNL.inw {w w' : World} {l : List PN} {a : Option Addr} (h : RepNL w (InW w) l a) (k : Ext w w') : RepNL w' (InW w') l a := RepNL.to (fun b hb => ⟨Nat.lt_of_lt_of_le hb k.size, k.block b hb⟩) l a h

/-- A tree is found the same as itself, wherever the two lie. -/
def SameOf (p : PN) : Prop := ∀ (va vb : Value) (w : World), RepN w (InW w) p va → RepN w (InW w) p vb → Calls Tryz.prog 35 #[va, vb] w fun e w' => e = .returned (.bool true) ∧ Ext w w'

set_option maxHeartbeats 1000000 in
theorem eqf_w (l : List PN) (hl : ∀ p ∈ l, SameOf p) (a b : Option Addr) (ca cb : Nat) (w : World) (h1 : RepNL w (InW w) l a) (h2 : RepNL w (InW w) l b) (hn : l.length ≤ 100000000) :
    Calls Tryz.prog 60 #[.slice a l.length ca, .slice b l.length cb, .func (.func 35) #[] #[]] w fun e w' => e = .returned (.bool true) ∧ Ext w w' := by
  have HA := hide h1
  have HB := hide h2
  have HS := hide hl
  clear h1 h2 hl
  generalize hN : l.length = n at *
  go_enter Tryz.func60, Tryz.ntmps60
  go_wp2_with fail
  go_loopw [17] (fun t wr => ∃ (j : Nat), t = .int .i64 j ∧ j ≤ n ∧ Hd (Ext w wr)) (fun t _ => n - (intOf t).toNat)
  case atStart => exact ⟨0, rfl, by omega, Ext.refl w⟩
  case round =>
    obtain ⟨j, rfl, hj, hX⟩ := hrel
    by_cases hlt : j < n
    · obtain ⟨p, hp⟩ : ∃ p, l[j]? = some p := ⟨_, List.getElem?_eq_getElem (by omega)⟩
      obtain ⟨b1, o1, c0, c1, c2, c3, c4, rfl, f1, r1, e0, e1, e2, e3, e4⟩ := repNL_at ((unhide HA).inw (unhide hX)) j p hp
      obtain ⟨b2, o2, d0, d1, d2, d3, d4, rfl, f2, r2, g0, g1, g2, g3, g4⟩ := repNL_at ((unhide HB).inw (unhide hX)) j p hp
      obtain ⟨pk, po, ps, pn, pl⟩ := p
      have r1' := r1
      have r2' := r2
      rw [RepN] at r1' r2'
      obtain ⟨a1, cap1, hv1, _, _⟩ := r1'
      obtain ⟨a2, cap2, hv2, _, _⟩ := r2'
      injection hv1 with hv1
      injection hv2 with hv2
      simp at hv1 hv2
      obtain ⟨rfl, rfl, rfl, rfl, rfl⟩ := hv1
      obtain ⟨rfl, rfl, rfl, rfl, rfl⟩ := hv2
      have HP := hide (fun (W : World) (k : Ext wr W) => unhide HS ⟨pk, po, ps, pn, pl⟩ (List.mem_of_getElem? hp) _ _ W (r1.inw k) (r2.inw k))
      have E0 := fun ob => (Ext.alloc wr ob).cell e0
      have E1 := fun ob => (Ext.alloc wr ob).cell e1
      have E2 := fun ob => (Ext.alloc wr ob).cell e2
      have E3 := fun ob => (Ext.alloc wr ob).cell e3
      have E4 := fun ob => (Ext.alloc wr ob).cell e4
      have G0 := fun ob => (Ext.alloc wr ob).cell g0
      have G1 := fun ob => (Ext.alloc wr ob).cell g1
      have G2 := fun ob => (Ext.alloc wr ob).cell g2
      have G3 := fun ob => (Ext.alloc wr ob).cell g3
      have G4 := fun ob => (Ext.alloc wr ob).cell g4
      have HX2 : Hd (∀ o1 o2 : Obj, Ext wr ((wr.alloc o1).alloc o2)) := fun o1 o2 => (Ext.alloc _ _).trans (Ext.alloc _ _)
      clear r1 r2 f1 f2 hp
      go_wp2_with (go_at_call 35; refine Calls.mono (unhide HP _ (unhide HX2 _ _)) ?_; rintro e w2 ⟨rfl, hw⟩; have X2 := hide (((unhide hX).trans (unhide HX2 _ _)).trans hw); clear hw)
      go_roundw
      case rel => exact ⟨j + 1, by go_num, by omega, X2⟩
      case measure => simp [intOf]; omega
    · obtain rfl : j = n := by omega
      go_wp2_with fail
      go_ret
      exact ⟨rfl, unhide hX⟩

/-- A tree whose lists are bounded. -/
def bdN : Nat → PN → Bool
  | 0, _ => false
  | f + 1, p => decide (p.l.length ≤ 100000000) && decide (p.s.size ≤ 100000000) && p.l.all (bdN f)

set_option maxHeartbeats 1000000 in
theorem same_w : ∀ (f : Nat) (p : PN), bdN f p = true → SameOf p := by
  intro f
  induction f with
  | zero => intro p h; cases h
  | succ f ih =>
    intro p h va vb w h1 h2
    obtain ⟨k, o, s, n, l⟩ := p
    rw [bdN] at h
    simp only [Bool.and_eq_true, decide_eq_true_eq, List.all_eq_true] at h
    obtain ⟨⟨hlen, hs⟩, hall⟩ := h
    rw [RepN] at h1 h2
    obtain ⟨a, ca, rfl, _, hA⟩ := h1
    obtain ⟨b, cb, rfl, _, hB⟩ := h2
    have HQ := hide (fun (W : World) (x : Ext w W) => eqf_w l (fun p hp => ih p (hall p hp)) a b ca cb W (hA.inw x) (hB.inw x) hlen)
    have HX2 : Hd (∀ o1 o2 : Obj, Ext w ((w.alloc o1).alloc o2)) := fun o1 o2 => (Ext.alloc _ _).trans (Ext.alloc _ _)
    clear hA hB ih hall
    generalize l.length = m at *
    go_enter Tryz.func35, Tryz.ntmps35
    go_wp2_with (go_at_call 60; refine Calls.mono (unhide HQ _ (unhide HX2 _ _)) ?_; rintro e w2 ⟨rfl, hw⟩; have X2 := hide ((unhide HX2 _ _).trans hw); clear hw)
    go_ret
    exact ⟨rfl, unhide X2⟩

end Go.Proofs.YtgkiihjakbnhcaaGreatDoor

namespace Go.Proofs.YtgkiihjakbnhcaaGreatDoor
open Go.RowKit

theorem ext_wrk {g : Nat} {w W2 W : World} (h : Ext w W2) (k : WrK g W2 W) (hg : w.heap.size ≤ g) : Ext w W :=
  ⟨k.os.trans h.os, k.tape.trans h.tape, k.output.trans h.output, Nat.le_trans h.size k.size, fun b hb => (k.low b (by omega)).trans (h.block b hb)⟩

set_option maxHeartbeats 1000000 in
theorem show_w (p : PN) (f f2 f3 : Nat) (l : List UInt8) (n : Int) (st : PS) (v : Value) (w : World) (he : Er w) (hO : Opx w) (hN : RepN w (InW w) p v)
    (hE : wE f p 1 (([], false), 0) = some ((l, false), n)) (hx : xrP ⟨l.toArray⟩ f2 = (p, st)) (hst : st.e = 0) (hb : bdN f3 p = true) (hl : l.length ≤ 4000) (hf : (begP ⟨l.toArray⟩).ts.length < f2) (hf2 : f2 ≤ 100000) :
    Calls Tryz.prog 15 #[v] w fun e w' => e = .returned (.tuple #[.string ⟨l.toArray⟩, .bool true]) ∧ Ext w w' := by
  have hop := opx_lt hO
  obtain ⟨pk, po, ps, pn, pl⟩ := p
  have HTr := hide (fun (W : World) (k : Ext w W) => hN.inw k)
  have HT2 : Hd (∀ W, Ext w W → RepN W (fun b => b < w.heap.size + 1) ⟨pk, po, ps, pn, pl⟩ v) := fun W k => RepN.to (fun b hb => ⟨by have : b < w.heap.size := hb; omega, k.block b hb⟩) _ _ hN
  rw [RepN] at hN
  obtain ⟨a, cap, rfl, hcap, hL⟩ := hN
  have I0 : Hd (WrI ((w.alloc (nodW pk po ps pn a pl.length cap)).alloc (wrO (.slice none 0 0) 0 false)) (w.heap.size + 1) (([], false), 0)) := by
    refine ⟨⟨.slice none 0 0, ?_, World.ownsRow_nil _ _ _ _⟩, by simp, (hO.ext (Ext.alloc _ _)).ext (Ext.alloc _ _), by omega⟩
    have := Go.heap_alloc_new (w.alloc (nodW pk po ps pn a pl.length cap)) (wrO (.slice none 0 0) 0 false)
    rw [size_alloc] at this
    exact this
  have HX2 : Hd (Ext w ((w.alloc (nodW pk po ps pn a pl.length cap)).alloc (wrO (.slice none 0 0) 0 false))) := (Ext.alloc _ _).trans (Ext.alloc _ _)
  have HEx := hide (expr_w (w.heap.size + 1) f _ 1 _ _ _ _ hE (unhide I0) (unhide HT2 _ (unhide HX2)))
  have HBx : Hd (∀ W, WrK (w.heap.size + 1) ((w.alloc (nodW pk po ps pn a pl.length cap)).alloc (wrO (.slice none 0 0) 0 false)) W → W.heap[w.heap.size]? = some (nodW pk po ps pn a pl.length cap)) := fun W k => by
    have h0 : ((w.alloc (nodW pk po ps pn a pl.length cap)).alloc (wrO (.slice none 0 0) 0 false)).heap[w.heap.size]? = some (nodW pk po ps pn a pl.length cap) := ((Ext.alloc _ _).block _ (by rw [size_alloc]; omega)).trans (Go.heap_alloc_new w _)
    exact (k.keep w.heap.size (by rw [size_alloc, size_alloc]; omega) (by omega) (nodO_not h0)).trans h0
  have HXw : Hd (∀ W, WrK (w.heap.size + 1) ((w.alloc (nodW pk po ps pn a pl.length cap)).alloc (wrO (.slice none 0 0) 0 false)) W → Ext w W) := fun W k => ext_wrk (unhide HX2) k (by omega)
  have HTd := hide (fun (W : World) (h : Wr W (w.heap.size + 1) l n false) => told_any (w.heap.size + 1) l n false W h)
  have HXp : Hd (∀ W, Ext w W → Calls Tryz.prog 14 #[.string ⟨l.toArray⟩] W fun e w' => ∃ ua uc, e = .returned (.tuple #[.agg #[.int .i64 pk, .int .i64 po, .string ps, .int .i64 pn, .slice ua pl.length uc], .int .i64 0, .int .i64 0]) ∧ RepN w' (InW w') ⟨pk, po, ps, pn, pl⟩ (.agg #[.int .i64 pk, .int .i64 po, .string ps, .int .i64 pn, .slice ua pl.length uc]) ∧ Ext W w') := fun W x => by
    refine Calls.mono (exprT_any ⟨l.toArray⟩ f2 W (he.on x) (hO.ext x) (by show l.toArray.size ≤ _; simp; omega) hf hf2) ?_
    rw [hx]
    rintro e w' ⟨hw, h9 | ⟨h9, u, rfl, ru⟩⟩
    · exact absurd hst h9.1
    · have ru2 : RepN w' (InW w') ⟨pk, po, ps, pn, pl⟩ u := RepN.to (fun b hb => ⟨hb.2, rfl⟩) _ _ ru
      have ru3 := ru2
      rw [RepN] at ru3
      obtain ⟨ua, uc, rfl, _, _⟩ := ru3
      exact ⟨ua, uc, rfl, ru2, hw⟩
  have HSm := hide (same_w f3 ⟨pk, po, ps, pn, pl⟩ hb)
  clear hE hx hb hf hf2 hO he hL hst
  generalize pl.length = m at *
  go_enter Tryz.func15, Tryz.ntmps15
  go_wp2_with (first
    | (go_at_call 33; refine Calls.mono (unhide HEx) ?_; rintro e w3 ⟨rfl, h9, l9, k9⟩; have W3 := hide h9; have hrow := unhide HBx _ k9; have X3 := hide (unhide HXw _ k9); have R3 := hide hrow; clear h9 l9 k9 hrow)
    | (go_at_call 34; refine Calls.mono (unhide HTd _ (unhide W3)) ?_; rintro e w4 ⟨rfl, hw⟩; obtain rfl := hw.symm)
    | (have T9 := unhide X3; go_at_call 14; refine Calls.mono (unhide HXp _ T9) ?_; rintro e w5 ⟨ua, uc, rfl, ru, hw⟩; have X5 := hide ((unhide X3).trans hw); have r5 := hw.row (unhide R3); have c0 := rowC r5 0 rfl; have c1 := rowC r5 1 rfl; have c2 := rowC r5 2 rfl; have c3 := rowC r5 3 rfl; have c4 := rowC r5 4 rfl; have C0 := (fun ob => (Ext.alloc w5 ob).cell c0); have C1 := (fun ob => (Ext.alloc w5 ob).cell c1); have C2 := (fun ob => (Ext.alloc w5 ob).cell c2); have C3 := (fun ob => (Ext.alloc w5 ob).cell c3); have C4 := (fun ob => (Ext.alloc w5 ob).cell c4); have U5 := hide ru; clear hw ru r5 T9)
    | (have T9 := unhide X5; go_at_call 35; refine Calls.mono (unhide HSm _ _ _ (unhide HTr _ (T9.trans (Ext.alloc _ _))) ((unhide U5).inw (Ext.alloc _ _))) ?_; rintro e w6 ⟨rfl, hw⟩; have X6 := hide ((T9.trans (Ext.alloc _ _)).trans hw); clear hw T9))
  exact bodyPost_ret (v := .tuple #[.string ⟨l.toArray⟩, .bool true]) (by simp [results, Tryz.results15, go_sem]) rfl ⟨rfl, unhide X6⟩

end Go.Proofs.YtgkiihjakbnhcaaGreatDoor

namespace Go.Proofs.YtgkiihjakbnhcaaGreatDoor
open Go.RowKit

abbrev WrP : Type := WS3 → Option WS3
/-- There can be no text. -/
def wFail (x : WS3) : WS3 := ((x.1.1, true), x.2)
/-- One more node: gone on with if it may be gone into. -/
def wEnt (k : WrP) (x : WS3) : Option WS3 :=
  if 0 ≤ x.2 ∧ x.2 ≤ 100000 then (if entN x.2 x.1.2 then some ((x.1.1, true), x.2 + 1) else k ((x.1.1, false), x.2 + 1)) else none
/-- Behind what may be none, words. -/
def wThen (r : Option WS3) (ss : List ByteArray) : Option WS3 := match r with
  | none => none
  | some y => some (wW y ss)
/-- The statements of a block. -/
def wBL (S : PN → WrP) : List PN → WrP
  | [], x => some x
  | p :: l, x => if x.1.2 then some x else match S p x with
    | none => none
    | some y => wBL S l y
def wB (S : PN → WrP) (p : PN) (x : WS3) : Option WS3 :=
  if p.k = 10 then if 1000000 < p.l.length then none else wEnt (fun y => wThen (wBL S p.l (wW y [⟨#[123]⟩])) [⟨#[125]⟩]) x else some (wFail x)
def wEnd (E : PN → Int → WrP) (l : List PN) (x : WS3) : Option WS3 := match l with
  | [a] => wThen (E a 1 x) [⟨#[59]⟩]
  | _ => some (wFail x)
def wAns (E : PN → Int → WrP) (l : List PN) (x : WS3) : Option WS3 := match l with
  | [] => some (wW (wW x [⟨#[114, 101, 116, 117, 114, 110]⟩]) [⟨#[59]⟩])
  | _ => wEnd E l (wW x [⟨#[114, 101, 116, 117, 114, 110]⟩])
def wGrd (E : PN → Int → WrP) (B : PN → WrP) (s : ByteArray) (l : List PN) (x : WS3) : Option WS3 := match l with
  | [a, b] => (match E a 1 (wW x [s]) with
    | none => none
    | some y => B b y)
  | _ => some (wFail x)
def wCho (E : PN → Int → WrP) (B O : PN → WrP) (l : List PN) (x : WS3) : Option WS3 := match l with
  | [a, b, c] => (match wGrd E B ⟨#[105, 102]⟩ [a, b] x with
    | none => none
    | some y => O c (wW y [⟨#[101, 108, 115, 101]⟩]))
  | _ => wGrd E B ⟨#[105, 102]⟩ l x
def wOth (S B : PN → WrP) (p : PN) (x : WS3) : Option WS3 :=
  if p.k = 10 then (match p.l with
    | [a] => if a.k = 3 then S a x else B p x
    | _ => B p x)
  else B p x
def wSt (E : PN → Int → WrP) (B O : PN → WrP) (p : PN) (x : WS3) : Option WS3 :=
  wEnt (fun y =>
    if 100000000 < p.s.size then none
    else if p.k = 1 then wEnd E p.l (wW y [⟨#[108, 101, 116]⟩, p.s, ⟨#[61]⟩])
    else if p.k = 2 then wEnd E p.l (wW y [p.s, ⟨#[61]⟩])
    else if p.k = 3 then wCho E B O p.l y
    else if p.k = 4 then wGrd E B ⟨#[119, 104, 105, 108, 101]⟩ p.l y
    else if p.k = 5 then some (wW y [⟨#[98, 114, 101, 97, 107]⟩, ⟨#[59]⟩])
    else if p.k = 6 then some (wW y [⟨#[99, 111, 110, 116, 105, 110, 117, 101]⟩, ⟨#[59]⟩])
    else if p.k = 7 then wAns E p.l y
    else if p.k = 8 then wEnd E p.l (wW y [⟨#[112, 114, 105, 110, 116]⟩])
    else if p.k = 9 then wEnd E p.l y
    else some (wFail y)) x
/-- A statement with fuel; blocks and what stands behind an else go through it. -/
def wS (E : PN → Int → WrP) : Nat → PN → WrP
  | 0, _, _ => none
  | f + 1, p, x => wSt E (wB (wS E f)) (wOth (wS E f) (wB (wS E f))) p x
def wBk (E : PN → Int → WrP) (f : Nat) : PN → WrP := wB (wS E f)
/-- The names of parameters from the place i on. -/
def wPL : Nat → List ByteArray → WS3 → WS3
  | _, [], x => x
  | i, s :: l, x => if x.1.2 then x else wPL (i + 1) l (wW (if 0 < i then wW x [⟨#[44]⟩] else x) [s])
def wPar (l : List ByteArray) (x : WS3) : WS3 := wW (wPL 0 l (wW x [⟨#[40]⟩])) [⟨#[41]⟩]
/-- The functions of a program. -/
def wFs (E : PN → Int → WrP) (f : Nat) : List PFn → WrP
  | [], x => some x
  | q :: l, x => if x.1.2 then some x else if 100000000 < q.nm.size ∨ 1000000 < q.ps.length ∨ q.ps.any (fun s => decide (100000000 < s.size)) = true then none else match wBk E f q.bd (wPar q.ps (wW x [⟨#[102, 110]⟩, q.nm])) with
    | none => none
    | some y => wFs E f l y
/-- What Print tells of functions (with fuel): a text, or that there is none. -/
def prtP (f : Nat) (l : List PFn) : Option (Option ByteArray) := match wFs (wE f) f l (([], false), 0) with
  | none => none
  | some y => some (if y.1.2 then none else some ⟨y.1.1.toArray⟩)

end Go.Proofs.YtgkiihjakbnhcaaGreatDoor

namespace Go.Proofs.YtgkiihjakbnhcaaGreatDoor
open Go.RowKit

/-- What is asked of the function that lays down a block. -/
def BkW (g : Nat) (f : FuncId) (B : PN → WrP) : Prop := ∀ (p : PN) (x y : WS3) (v : Value) (W : World), B p x = some y → WrI W g x → RepN W (fun b => b < g) p v → Calls Tryz.prog f #[.pointer (some ⟨g, 0, none⟩), v] W (WrE g W y)

end Go.Proofs.YtgkiihjakbnhcaaGreatDoor
