/- All words of a text. · Reading a program, as plain functions: the words that are still to be read, how much is open, the first fault. · What it is that a world holds a reader, and a tree; what stays so when it goes on. · The reader's small steps: what stands ahead, what is taken, what fails. -/
import Derived.Test.YtlgdjeiendmniaaGreatDoorZg9
import Derived.Deep.QuietTactic
import Derived.BigQuiet
import Derived.Defers
set_option linter.unusedSimpArgs false
set_option linter.unusedVariables false
set_option maxRecDepth 10000

namespace Go.Proofs.YtlgdjeiendmniaaGreatDoor
open Go.RowKit

theorem add0 (g j : Nat) : (⟨g, 0, none⟩ : Addr).add j = ⟨g, j, none⟩ := by unfold Addr.add; split <;> simp_all
theorem cells_new (w : World) (cs : Array Value) (t : TypeId) : ∀ j u, cs.toList[j]? = some u → (w.alloc (.cells cs t)).cell? ((⟨w.heap.size, 0, none⟩ : Addr).add j) = some u := by
  intro j u hu
  rw [add0]
  exact cell_box w cs t j (by simpa using hu)
theorem size_alloc (w : World) (o : Obj) : (w.alloc o).heap.size = w.heap.size + 1 := Array.size_push ..
theorem cells_new2 (w : World) (o : Obj) (cs : Array Value) (t : TypeId) : ∀ j u, cs.toList[j]? = some u → ((w.alloc o).alloc (.cells cs t)).cell? ((⟨w.heap.size + 1, 0, none⟩ : Addr).add j) = some u := by
  have := cells_new (w.alloc o) cs t
  rw [size_alloc] at this
  exact this
theorem ext_grown {a b : World} {r : Option Nat} (h : Ext a b) : a.grownBy b r := ⟨h.os, h.tape, h.output, h.size, fun k hk _ => h.block k hk⟩
theorem own_ext {a b : World} {base : Nat} {e : TypeId} {size : Nat} {v : Value} {n : Nat} {xs : List Value} (h : a.ownsRow base e size v n xs) (k : Ext a b) : b.ownsRow base e size v n xs :=
  h.kept (ext_grown (r := none) k) (by cases v.ownBlock with | none => exact Or.inl rfl | some x => exact Or.inr (by simp))
theorem infoTok : (Tryz.prog.info? 138).map (fun i => (i.zero, i.size, i.bytes)) = some (some (tokV 0 ⟨#[]⟩ 0 0), 4, 40) := by kernel_rfl

/-- What holds at the label: the words so far, in a row of the call's own. -/
structure LI (s : ByteArray) (W wr : World) (k f : Nat) (acc : List Tk) (v : Value) : Prop where
  eq : lexF (s.size + 1) s 0 = (acc ++ (lexF f s k).1, (lexF f s k).2)
  fuel : s.size - k < f
  len : acc.length ≤ k
  own : wr.ownsRow W.heap.size 138 4 v acc.length (acc.flatMap tkC)
  ext : Ext W wr

theorem LI.start (s : ByteArray) (W : World) : LI s W W 0 (s.size + 1) [] (.slice none 0 0) :=
  ⟨by simp, by omega, Nat.le_refl _, World.ownsRow_nil W _ _ _, Ext.refl _⟩

theorem LI.done {s : ByteArray} {W wr : World} {k f : Nat} {acc : List Tk} {v : Value} (h : LI s W wr k f acc v) (hb : s.size ≤ k + skp false ((L s).drop k)) : lexF (s.size + 1) s 0 = (acc, none) := by
  have hf := h.fuel
  obtain ⟨g, rfl⟩ : ∃ g, f = g + 1 := ⟨f - 1, by omega⟩
  rw [h.eq, lexF, if_pos hb]
  simp

theorem LI.bad {s : ByteArray} {W wr : World} {k f : Nat} {acc : List Tk} {v : Value} (h : LI s W wr k f acc v) (hb : k + skp false ((L s).drop k) < s.size) (ht : tokT s (k + skp false ((L s).drop k)) = none) : lexF (s.size + 1) s 0 = (acc, some (k + skp false ((L s).drop k))) := by
  have hf := h.fuel
  obtain ⟨g, rfl⟩ : ∃ g, f = g + 1 := ⟨f - 1, by omega⟩
  rw [h.eq, lexF, if_neg (by omega), ht]
  simp

theorem LI.next {s : ByteArray} {W wr w1 w2 : World} {k f : Nat} {acc : List Tk} {v v' : Value} {kd : Int} {t : ByteArray} {n : Int} {m : Nat} (h : LI s W wr k f acc v) (hb : k + skp false ((L s).drop k) < s.size) (ht : tokT s (k + skp false ((L s).drop k)) = some (kd, t, n, m))
    (hx : Ext wr w1) (hown' : w2.ownsRow W.heap.size 138 4 v' (acc.length + 1) (acc.flatMap tkC ++ [.int .i64 kd, .string t, .int .i64 n, .int .i64 ((k + skp false ((L s).drop k) : Nat) : Int)])) (hgrow : w1.grownBy w2 v.ownBlock) :
    LI s W w2 m (f - 1) (acc ++ [⟨kd, t, n, k + skp false ((L s).drop k)⟩]) v' := by
  have hf := h.fuel
  have hm := tok_lt s _ _ _ _ _ ht
  refine ⟨?_, by omega, ?_, ?_, ?_⟩
  · obtain ⟨g, rfl⟩ : ∃ g, f = g + 1 := ⟨f - 1, by omega⟩
    rw [h.eq, lexF, if_neg (by omega), ht]
    simp
  · rw [List.length_append]; have := h.len; simp; omega
  · rw [List.length_append, List.flatMap_append]; exact hown'
  · refine Below.grown (h.ext.trans hx) hgrow (h.ext.trans hx).le ?_
    intro j hj
    obtain ⟨_, h | ⟨g, cap, cur, h, hg, _⟩⟩ := h.own
    · rw [h.1] at hj; cases hj
    · rw [h] at hj; cases hj; exact hg

/-- What Tokens answers, in a row of the call's own. -/
def ToksIn (s : ByteArray) (w : World) (e : Ending) (w' : World) : Prop :=
  (4000 < s.size ∧ e = .returned (.tuple #[.slice none 0 0, .int .i64 0, .int .i64 2]) ∧ Ext w w') ∨
  (s.size ≤ 4000 ∧ ∃ b, (lexF (s.size + 1) s 0).2 = some b ∧ e = .returned (.tuple #[.slice none 0 0, .int .i64 (b : Nat), .int .i64 10]) ∧ Ext w w') ∨
  (s.size ≤ 4000 ∧ (lexF (s.size + 1) s 0).2 = none ∧ ∃ v, e = .returned (.tuple #[v, .int .i64 0, .int .i64 0]) ∧ w'.ownsRow w.heap.size 138 4 v (lexF (s.size + 1) s 0).1.length ((lexF (s.size + 1) s 0).1.flatMap tkC) ∧ Ext w w')

set_option maxHeartbeats 4000000 in
theorem tokens_any (s : ByteArray) (w : World) (he : Er w) (hmax : s.size ≤ 140737488355328) :
    Calls Tryz.prog 47 #[.string s] w (ToksIn s w) := by
  by_cases hs : 4000 < s.size
  · go_enter Tryz.func47, Tryz.ntmps47
    go_wp2
    go_step3
    go_wp2
    try rw [Exit.noGoto_ret]
    go_ret3
    exact Or.inl ⟨hs, rfl, Ext.refl _⟩
  · have hs : s.size ≤ 4000 := by omega
    clear hmax
    obtain ⟨i0, hi, hz0, hz1, hz2⟩ := info_parts infoTok
    have HI := hide hi
    have Z0 := hide hz0
    have Z1 := hide hz1
    have Z2 := hide hz2
    have HE := hide he
    clear hi hz0 hz1 hz2 he
    obtain ⟨PQ, hPQ⟩ : ∃ PQ : Ending → World → Prop, PQ = ToksIn s w := ⟨_, rfl⟩
    rw [← hPQ]
    have HPQ := hide hPQ
    clear hPQ
    go_enter Tryz.func47, Tryz.ntmps47
    go_wp2
    refine wp_scope_loop 0 (fun a' wr => ∃ (k : Nat) (i : Int) (f : Nat) (acc : List Tk) (v : Value) (u5 u6 u7 u8 u9 u10 u11 u12 u13 u14 u15 u16 u17 u18 u19 u20 u21 u22 u23 u24 u25 u26 u27 u28 u29 u30 u31 u32 u33 : Value), a' = { tmps := #[.string s, undef, v, .int .i64 i, .int .i64 0, u5, u6, u7, u8, u9, u10, u11, u12, u13, u14, u15, u16, u17, u18, u19, u20, u21, u22, u23, u24, u25, u26, u27, u28, u29, u30, u31, u32, u33], defers := [] } ∧ i = k ∧ k ≤ s.size ∧ Hd (LI s w wr k f acc v)) (fun a' _ => s.size - (intOf (a'.tmps.getD 3 undef)).toNat) rfl ?_ ?_
    · rintro a' wr ⟨k, i, f, acc, v, u5, u6, u7, u8, u9, u10, u11, u12, u13, u14, u15, u16, u17, u18, u19, u20, u21, u22, u23, u24, u25, u26, u27, u28, u29, u30, u31, u32, u33, rfl, rfl, hk, hI⟩
      have HB := hide (fun W => begin_any s k W hk (by omega))
      have hle := skp_le ((L s).drop k) false
      rw [List.length_drop, L_len] at hle
      by_cases hb : s.size ≤ k + skp false ((L s).drop k)
      · have hD := hide ((unhide hI).done hb)
        have hend : ((k : Int) + (skp false ((L s).drop k) : Nat) == (s.size : Int)) = true := by simp; omega
        clear hb
        generalize skp false ((L s).drop k) = j at hle HB hend
        go_wp2_with (go_at_call 73; refine Calls.mono (unhide HB _) ?_; rintro e w1 ⟨rfl, hw⟩; obtain rfl := hw.symm)
        simp only [Exit.jump]
        go_ret3
        rw [unhide HPQ]
        have D := unhide hD
        refine Or.inr (Or.inr ⟨hs, by rw [D], v, rfl, ?_, (unhide hI).ext⟩)
        rw [D]
        exact (unhide hI).own
      · have hend : ((k : Int) + (skp false ((L s).drop k) : Nat) == (s.size : Int)) = false := by simp; omega
        have hlt : k + skp false ((L s).drop k) < s.size := by omega
        have HT := hide (fun W (x : Ext w W) => token_any s (k + skp false ((L s).drop k)) W hlt (by omega) ((unhide HE).on x))
        clear hb
        cases hT : tokT s (k + skp false ((L s).drop k)) with
        | none =>
          have hD := hide ((unhide hI).bad hlt hT)
          rw [hT] at HT
          clear hT
          unfold Tells at HT
          generalize skp false ((L s).drop k) = j at hle HB HT hD hlt hend
          go_wp2_with (first
            | (go_at_call 73; refine Calls.mono (unhide HB _) ?_; rintro e w1 ⟨rfl, hw⟩; obtain rfl := hw.symm)
            | (go_at_call 74; refine Calls.mono (unhide HT _ (unhide hI).ext) ?_; rintro e w1 ⟨rfl, hw⟩; have X1 := hide ((unhide hI).ext.trans hw); clear hw))
          simp only [Exit.jump]
          go_ret3
          rw [unhide HPQ]
          exact Or.inr (Or.inl ⟨hs, _, by rw [unhide hD], rfl, (unhide X1).trans (Ext.alloc _ _)⟩)
        | some q =>
          obtain ⟨kd, t, n, m⟩ := q
          have hm := tok_lt s _ _ _ _ _ hT
          have HN := hide (fun v' w1 w2 => (unhide hI).next (v' := v') (w1 := w1) (w2 := w2) hlt hT)
          rw [hT] at HT
          clear hT
          unfold Tells at HT
          generalize skp false ((L s).drop k) = j at hle HB HT HN hm hlt hend
          go_wp2_with (first
            | (go_at_call 73; refine Calls.mono (unhide HB _) ?_; rintro e w1 ⟨rfl, hw⟩; obtain rfl := hw.symm)
            | (go_at_call 74; refine Calls.mono (unhide HT _ (unhide hI).ext) ?_; rintro e w1 ⟨rfl, hw⟩; have X1 := hide hw; clear hw)
            | (at_builtin; refine wpList_append_own _ rfl _ _ 80 rfl w.heap.size 138 i0 (tokV 0 ⟨#[]⟩ 0 0) 4 40 Tryz.underlying80 (unhide HI) (unhide Z0) (unhide Z1) (unhide Z2) rfl (by decide) _ _ _ rfl (((own_ext (unhide hI).own (unhide X1)).alloc _).alloc _) ⟨w1.heap.size + 1, 0, none⟩ 1 1 [.int .i64 kd, .string t, .int .i64 n, .int .i64 ((k : Int) + (j : Int))] rfl rfl (cells_new2 _ _ _ _) ?c2 ?c3 ?c4 ?c5 ?_))
          case c2 => intro u hu; simp at hu; rcases hu with rfl | rfl | rfl | rfl <;> rfl
          case c3 => have := (unhide hI).len; unfold maxLen; omega
          case c4 => have := (unhide hI).len; omega
          case c5 => have := ((unhide hI).ext.trans (unhide X1)).le; simp; omega
          intro v' w2 hown' hgrow _
          have R := hide (unhide HN v' _ w2 (((unhide X1).trans (Ext.alloc _ _)).trans (Ext.alloc _ _)) hown' hgrow)
          clear hown' hgrow HN
          go_wp2
          go_step3
          refine ⟨rfl, ⟨m, _, _, _, _, _, _, _, _, _, _, _, _, _, _, _, _, _, _, _, _, _, _, _, _, _, _, _, _, _, _, _, _, _, rfl, rfl, by omega, R⟩, ?_⟩
          simp [intOf]
          omega
    · intro H
      have HH := hide H
      clear H
      have hst := hide (LI.start s w)
      go_wp2
      refine wp_label ?_
      rename_i hK
      exact hK _ _ (unhide HH _ _ ⟨0, _, _, _, _, _, _, _, _, _, _, _, _, _, _, _, _, _, _, _, _, _, _, _, _, _, _, _, _, _, _, _, _, _, rfl, by omega, by omega, hst⟩)

end Go.Proofs.YtlgdjeiendmniaaGreatDoor

namespace Go.Proofs.YtlgdjeiendmniaaGreatDoor
open Go.RowKit

/-- A tree as plain data: its kind, its op, its text, its number, its list. -/
structure PN where
  k : Int
  o : Int
  s : ByteArray
  n : Int
  l : List PN

abbrev emptyB : ByteArray := ⟨#[]⟩
def nodeZ : PN := ⟨0, 0, emptyB, 0, []⟩
def tkZ : Tk := ⟨0, emptyB, 0, 0⟩

/-- Where a reader stands: the words not yet read, what is open, the place of the fault, the fault. -/
structure PS where
  ts : List Tk
  op : Int
  pl : Int
  e : Int

/-- The word that stands so far ahead, or none. -/
def hdT (ts : List Tk) (i : Nat) : Tk := (ts[i]?).getD tkZ

def PS.here (st : PS) (len : Nat) : Int := match st.ts with
  | [] => len
  | t :: _ => t.o
def PS.fail (st : PS) (len : Nat) (c : Int) : PS := if st.e = 0 then ⟨[], st.op, st.here len, c⟩ else ⟨[], st.op, st.pl, st.e⟩
def PS.next (st : PS) : PS := ⟨st.ts.tail, st.op, st.pl, st.e⟩
def isT (t : Tk) (k : Int) (s : ByteArray) : Bool := (t.k == k) && (t.t.toList == s.toList)
def PS.isS (st : PS) (s : ByteArray) : Bool := isT (hdT st.ts 0) 6 s
def PS.isW (st : PS) (s : ByteArray) : Bool := isT (hdT st.ts 0) 2 s
def PS.takeS (st : PS) (s : ByteArray) : Bool × PS := if st.isS s then (true, st.next) else (false, st)
def PS.takeW (st : PS) (s : ByteArray) : Bool × PS := if st.isW s then (true, st.next) else (false, st)
def PS.sign (st : PS) (len : Nat) (s : ByteArray) : PS := if st.isS s then st.next else st.fail len 10
def PS.word (st : PS) (len : Nat) (s : ByteArray) : PS := if st.isW s then st.next else st.fail len 10
def PS.name (st : PS) (len : Nat) : ByteArray × PS := if (hdT st.ts 0).k = 1 then ((hdT st.ts 0).t, st.next) else (emptyB, st.fail len 10)
def PS.up (st : PS) : PS := ⟨st.ts, wrap64 (st.op + 1), st.pl, st.e⟩
def PS.enter (st : PS) (len : Nat) : PS := if 24 < wrap64 (st.op + 1) then st.up.fail len 21 else st.up
def PS.leave (st : PS) : PS := ⟨st.ts, wrap64 (st.op - 1), st.pl, st.e⟩

/-- An operator: its sign, its level, the kind and op of its node. -/
structure Opr where
  s : ByteArray
  lv : Int
  k : Int
  o : Int

def oprs : List Opr := [⟨⟨#[124, 124]⟩, 1, 13, 0⟩, ⟨⟨#[38, 38]⟩, 2, 12, 0⟩, ⟨⟨#[61, 61]⟩, 3, 11, 6⟩, ⟨⟨#[33, 61]⟩, 3, 11, 7⟩, ⟨⟨#[60]⟩, 3, 11, 8⟩, ⟨⟨#[60, 61]⟩, 3, 11, 9⟩, ⟨⟨#[62]⟩, 3, 11, 10⟩, ⟨⟨#[62, 61]⟩, 3, 11, 11⟩,
  ⟨⟨#[43]⟩, 4, 11, 1⟩, ⟨⟨#[45]⟩, 4, 11, 2⟩, ⟨⟨#[42]⟩, 5, 11, 3⟩, ⟨⟨#[47]⟩, 5, 11, 4⟩, ⟨⟨#[37]⟩, 5, 11, 5⟩, ⟨⟨#[45]⟩, 6, 14, 15⟩, ⟨⟨#[33]⟩, 6, 14, 16⟩, ⟨⟨#[91]⟩, 7, 11, 12⟩]

def opHit (lv : Int) (s : ByteArray) (o : Opr) : Bool := (o.lv == lv) && (o.s.toList == s.toList)
def atLv (lv : Int) (s : ByteArray) : Option Opr := oprs.find? (opHit lv s)
def PS.oper (st : PS) (lv : Int) : Option Opr := if (hdT st.ts 0).k = 6 then atLv lv (hdT st.ts 0).t else none
def PS.takeO (st : PS) (lv : Int) : Option Opr × PS := match st.oper lv with
  | some o => (some o, st.next)
  | none => (none, st)
def Opr.node (o : Opr) (l : List PN) : PN := ⟨o.k, o.o, emptyB, 0, l⟩

abbrev Rdr := PS → PN × PS

/-- What operators of a level join, from left to right, behind n. -/
def loopP (lv : Int) (sub : Rdr) : Nat → PN → PS → PN × PS
  | 0, n, st => (n, st)
  | f + 1, n, st => match st.takeO lv with
    | (none, st1) => (n, st1)
    | (some o, st1) => loopP lv sub f (o.node [n, (sub st1).1]) (sub st1).2
def levP (lv : Int) (sub : Rdr) (f : Nat) (st : PS) : PN × PS := loopP lv sub f (sub st).1 (sub st).2
def cmpP (sub : Rdr) (st : PS) : PN × PS := match (sub st).2.takeO 3 with
  | (none, st1) => ((sub st).1, st1)
  | (some o, st1) => (o.node [(sub st).1, (sub st1).1], (sub st1).2)

/-- An expression in brackets, from the first of them on. -/
def inBrP (len : Nat) (ex : Rdr) (c : ByteArray) (st : PS) : PN × PS :=
  ((ex (st.enter len).next).1, ((ex (st.enter len).next).2.sign len c).leave)
def moreP (len : Nat) (ex : Rdr) : Nat → List PN → PS → List PN × PS
  | 0, acc, st => (acc, st)
  | f + 1, acc, st => match st.takeS ⟨#[44]⟩ with
    | (false, st1) => (acc, st1)
    | (true, st1) => moreP len ex f (acc ++ [(ex st1).1]) (ex st1).2
def opsP (len : Nat) (ex : Rdr) (f : Nat) (c : ByteArray) (st : PS) : List PN × PS := match st.takeS c with
  | (true, st1) => ([], st1)
  | (false, st1) => ((moreP len ex f [(ex st1).1] (ex st1).2).1, (moreP len ex f [(ex st1).1] (ex st1).2).2.sign len c)
def PS.isCall (st : PS) : Bool := ((hdT st.ts 0).k == 1) && isT (hdT st.ts 1) 6 ⟨#[40]⟩
def callP (len : Nat) (ex : Rdr) (f : Nat) (st : PS) : PN × PS :=
  (⟨20, 0, ((st.enter len).name len).1, 0, (opsP len ex f ⟨#[41]⟩ (((st.enter len).name len).2.sign len ⟨#[40]⟩)).1⟩, (opsP len ex f ⟨#[41]⟩ (((st.enter len).name len).2.sign len ⟨#[40]⟩)).2.leave)
def listP (len : Nat) (ex : Rdr) (f : Nat) (st : PS) : PN × PS :=
  (⟨21, 0, emptyB, 0, (opsP len ex f ⟨#[93]⟩ ((st.enter len).sign len ⟨#[91]⟩)).1⟩, (opsP len ex f ⟨#[93]⟩ ((st.enter len).sign len ⟨#[91]⟩)).2.leave)
def litP (len : Nat) (st : PS) : PN × PS :=
  if (hdT st.ts 0).k = 3 then (⟨15, 0, emptyB, (hdT st.ts 0).n, []⟩, st.next) else if (hdT st.ts 0).k = 4 then (⟨16, 0, emptyB, (hdT st.ts 0).n, []⟩, st.next) else
  if (hdT st.ts 0).k = 5 then (⟨17, 0, (hdT st.ts 0).t, 0, []⟩, st.next) else if (hdT st.ts 0).k = 1 then (⟨19, 0, (hdT st.ts 0).t, 0, []⟩, st.next) else (nodeZ, st.fail len 10)
def sglP (len : Nat) (ex : Rdr) (f : Nat) (st : PS) : PN × PS :=
  if st.isS ⟨#[40]⟩ then inBrP len ex ⟨#[41]⟩ st else if st.isS ⟨#[91]⟩ then listP len ex f st else
  if st.isW ⟨#[110, 105, 108]⟩ then (⟨18, 0, emptyB, 0, []⟩, st.next) else if st.isCall then callP len ex f st else litP len st
def ixLoopP (len : Nat) (ex : Rdr) : Nat → PN → PS → PN × PS
  | 0, n, st => (n, st)
  | f + 1, n, st => match st.oper 7 with
    | none => (n, st)
    | some o => ixLoopP len ex f (o.node [n, (inBrP len ex ⟨#[93]⟩ st).1]) (inBrP len ex ⟨#[93]⟩ st).2
def idxP (len : Nat) (ex : Rdr) (f : Nat) (st : PS) : PN × PS := ixLoopP len ex f (sglP len ex f st).1 (sglP len ex f st).2
def sgnP (len : Nat) (sg ex : Rdr) (f : Nat) (st : PS) : PN × PS := match st.oper 6 with
  | none => idxP len ex f st
  | some o => (o.node [(sg (st.enter len).next).1], (sg (st.enter len).next).2.leave)

def prdP (sg : Rdr) (f : Nat) : Rdr := levP 5 sg f
def sumP (sg : Rdr) (f : Nat) : Rdr := levP 4 (prdP sg f) f
def botP (sg : Rdr) (f : Nat) : Rdr := levP 2 (cmpP (sumP sg f)) f
def orP (sg : Rdr) (f : Nat) : Rdr := levP 1 (botP sg f) f

/-- The reader of what ops of one place stand ahead of, and that of expressions. -/
def bothP (len : Nat) : Nat → Rdr × Rdr
  | 0 => (fun st => (nodeZ, st), fun st => (nodeZ, st))
  | f + 1 => (sgnP len (bothP len f).1 (bothP len f).2 (f + 1), orP (sgnP len (bothP len f).1 (bothP len f).2 (f + 1)) (f + 1))
def exP (len f : Nat) : Rdr := (bothP len f).2

end Go.Proofs.YtlgdjeiendmniaaGreatDoor

namespace Go.Proofs.YtlgdjeiendmniaaGreatDoor
open Go.RowKit

/-- Memory was made, and of what stood there the block g alone may have turned. -/
structure Gr (g : Nat) (w w' : World) : Prop where
  os : w'.os = w.os
  tape : w'.tape = w.tape
  output : w'.output = w.output
  size : w.heap.size ≤ w'.heap.size
  block : ∀ k, k < w.heap.size → k ≠ g → w'.heap[k]? = w.heap[k]?

theorem Gr.refl (g : Nat) (w : World) : Gr g w w := ⟨rfl, rfl, rfl, Nat.le_refl _, fun _ _ _ => rfl⟩
theorem Gr.trans {g : Nat} {a b c : World} (h : Gr g a b) (k : Gr g b c) : Gr g a c :=
  ⟨k.os.trans h.os, k.tape.trans h.tape, k.output.trans h.output, Nat.le_trans h.size k.size, fun i hi hg => (k.block i (Nat.lt_of_lt_of_le hi h.size) hg).trans (h.block i hi hg)⟩
theorem Gr.of {g : Nat} {w w' : World} (h : Ext w w') : Gr g w w' := ⟨h.os, h.tape, h.output, h.size, fun k hk _ => h.block k hk⟩
theorem Gr.alloc {g : Nat} {a w : World} (h : Gr g a w) (o : Obj) : Gr g a (w.alloc o) := h.trans (Gr.of (Ext.alloc _ _))
theorem Gr.drew {g : Nat} {a w : World} (h : Gr g a w) : Gr g a w.drew := h.trans (Gr.of (Ext.drew (Ext.refl _)))
theorem Gr.set {g : Nat} {a w : World} (h : Gr g a w) {p : Addr} (hp : a.heap.size ≤ p.block ∨ p.block = g) (v : Value) : Gr g a (w.setCell p v) :=
  ⟨h.os, h.tape, h.output, Nat.le_trans h.size (by simp [World.setCell]), fun k hk hg => (Below.heap_setCell _ _ _ _ (by rcases hp with hp | hp <;> omega)).trans (h.block k hk hg)⟩
theorem Gr.row {g : Nat} {w w' : World} (h : Gr g w w') {b : Nat} {x : Obj} (hc : w.heap[b]? = some x) (hb : b ≠ g) : w'.heap[b]? = some x :=
  (h.block b (Array.getElem?_eq_some_iff.1 hc).1 hb).trans hc
theorem Gr.cell {g : Nat} {w w' : World} (h : Gr g w w') {b o : Nat} {v : Value} (hc : w.cell? ⟨b, o, none⟩ = some v) (hb : b ≠ g) : w'.cell? ⟨b, o, none⟩ = some v := by
  have hlt : b < w.heap.size := World.block_lt_of_cell? w ⟨b, o, none⟩ hc
  rw [World.cell?_of_block (w := w) (h.block b hlt hb)]; exact hc
theorem Ext.gr {g : Nat} {a w w' : World} (h : Ext a w) (k : Gr g w w') (hg : a.heap.size ≤ g) : Ext a w' :=
  ⟨k.os.trans h.os, k.tape.trans h.tape, k.output.trans h.output, Nat.le_trans h.size k.size, fun i hi => (k.block i (Nat.lt_of_lt_of_le hi h.size) (by omega)).trans (h.block i hi)⟩

theorem rowC {w : World} {g : Nat} {cs : Array Value} {t : TypeId} (h : w.heap[g]? = some (.cells cs t (0, 0))) (i : Nat) {v : Value} (hi : cs[i]? = some v) : w.cell? ⟨g, i, none⟩ = some v := by
  rw [cell_of_row w g i cs t (0, 0) h]; exact hi
theorem rowF {w : World} {g : Nat} {cs : Array Value} {t : TypeId} (h : w.heap[g]? = some (.cells cs t (0, 0))) (i : Nat) : w.frozen? ⟨g, i, none⟩ = false := by
  simp [World.frozen?, h]
theorem row_set {w : World} {g : Nat} {cs : Array Value} {t : TypeId} (h : w.heap[g]? = some (.cells cs t (0, 0))) (i : Nat) (v : Value) : (w.setCell ⟨g, i, none⟩ v).heap[g]? = some (.cells (cs.setIfInBounds i v) t (0, 0)) := by
  simp [World.setCell, Array.getElem?_modify, h]
theorem row_other {w : World} {g b : Nat} {x : Option Obj} (h : w.heap[g]? = x) (hne : g ≠ b) (i : Nat) (v : Value) : (w.setCell ⟨b, i, none⟩ v).heap[g]? = x :=
  (Below.heap_setCell _ _ _ _ hne).trans h

/-- The words that are left, as a slice. -/
def Sl (w : World) (g : Nat) (T : Value) (ts : List Tk) : Prop := ∃ a cap, T = .slice a ts.length cap ∧ ts.length ≤ cap ∧ cap ≤ 9223372036854775807 ∧
  (ts = [] ∨ ∃ b off, a = some ⟨b, off, none⟩ ∧ b < g ∧ ∀ j u, (ts.flatMap tkC)[j]? = some u → w.cell? ⟨b, off + j, none⟩ = some u)

theorem Sl.on {w w' : World} {g : Nat} {T : Value} {ts : List Tk} (h : Sl w g T ts) (k : Gr g w w') : Sl w' g T ts := by
  obtain ⟨a, cap, rfl, h1, h2, h3⟩ := h
  refine ⟨a, cap, rfl, h1, h2, ?_⟩
  rcases h3 with h3 | ⟨b, off, rfl, hb, hc⟩
  · exact Or.inl h3
  · exact Or.inr ⟨b, off, rfl, hb, fun j u hu => k.cell (hc j u hu) (by omega)⟩
theorem slNil (w : World) (g : Nat) : Sl w g (.slice none 0 0) [] := ⟨_, _, rfl, Nat.le_refl _, by decide, Or.inl rfl⟩

abbrev rdO (T : Value) (len : Nat) (op pl e : Int) : Obj := .cells #[T, .int .i64 (len : Int), .int .i64 op, .int .i64 pl, .int .i64 e] 82 (0, 0)

/-- The block g holds a reader that stands so. -/
structure St (w : World) (g len : Nat) (st : PS) : Prop where
  ex : ∃ T, w.heap[g]? = some (rdO T len st.op st.pl st.e) ∧ Sl w g T st.ts

theorem St.ext {w w' : World} {g len : Nat} {st : PS} (h : St w g len st) (k : Ext w w') : St w' g len st := by
  obtain ⟨T, h1, h2⟩ := h.ex
  exact ⟨T, k.row h1, h2.on (Gr.of k)⟩
theorem St.alloc {w : World} {g len : Nat} {st : PS} (h : St w g len st) (o : Obj) : St (w.alloc o) g len st := h.ext (Ext.alloc _ _)
theorem St.lt {w : World} {g len : Nat} {st : PS} (h : St w g len st) : g < w.heap.size := by
  obtain ⟨T, h1, h2⟩ := h.ex
  exact (Array.getElem?_eq_some_iff.1 h1).1
theorem St.set {w : World} {g len : Nat} {st : PS} (h : St w g len st) {b : Nat} (hb : g < b) (i : Nat) (v : Value) : St (w.setCell ⟨b, i, none⟩ v) g len st := by
  obtain ⟨T, h1, a, cap, rfl, h3, h4, h5⟩ := h.ex
  refine ⟨_, row_other h1 (by omega) _ _, a, cap, rfl, h3, h4, ?_⟩
  rcases h5 with h5 | ⟨b', off, rfl, hb', hc⟩
  · exact Or.inl h5
  · refine Or.inr ⟨b', off, rfl, hb', fun j u hu => ?_⟩
    rw [World.cell?_of_block (w := w) (Below.heap_setCell w ⟨b, i, none⟩ v b' (by show b' ≠ b; omega))]
    exact hc j u hu

theorem St.drew {w : World} {g len : Nat} {st : PS} (h : St w g len st) : St w.drew g len st := h.ext (Ext.drew (Ext.refl _))
theorem St.set4 {w : World} {g len : Nat} {st : PS} (h : St w g len st) {b : Nat} (hb : g < b) (k : Int) (t : ByteArray) (n o : Int) : St (set4 w b k t n o) g len st :=
  (((h.set hb _ _).set hb _ _).set hb _ _).set hb _ _
theorem Gr.set4 {g : Nat} {a w : World} (h : Gr g a w) {b : Nat} (hb : a.heap.size ≤ b) (k : Int) (t : ByteArray) (n o : Int) : Gr g a (set4 w b k t n o) :=
  (((h.set (Or.inl hb) _).set (Or.inl hb) _).set (Or.inl hb) _).set (Or.inl hb) _
/-- The words left are set anew. -/
theorem St.put {w : World} {g len : Nat} {T T2 : Value} {ts : List Tk} {op pl e : Int} (h : w.heap[g]? = some (rdO T len op pl e)) (hs : ∀ W, Gr g w W → Sl W g T2 ts) : St (w.setCell ⟨g, 0, none⟩ T2) g len ⟨ts, op, pl, e⟩ :=
  ⟨⟨T2, row_set h 0 T2, hs _ ((Gr.refl g w).set (p := ⟨g, 0, none⟩) (Or.inr rfl) _)⟩⟩
/-- What is open is set anew. -/
theorem St.putOp {w : World} {g len : Nat} {st : PS} (h : St w g len st) (op : Int) : St (w.setCell ⟨g, 2, none⟩ (.int .i64 op)) g len ⟨st.ts, op, st.pl, st.e⟩ := by
  obtain ⟨T, h1, h2⟩ := h.ex
  exact ⟨⟨T, row_set h1 2 _, h2.on ((Gr.refl g w).set (p := ⟨g, 2, none⟩) (Or.inr rfl) _)⟩⟩

@[go_sem] theorem fldT0 (k : Int) (t : ByteArray) (n o : Int) (W : World) : (Instr.field 138 (tokV k t n o) 0).run Tryz.prog W = .ok (.int .i64 k) W := by
  simp [Instr.field, asAgg, go_sem]
@[go_sem] theorem fldT1 (k : Int) (t : ByteArray) (n o : Int) (W : World) : (Instr.field 138 (tokV k t n o) 1).run Tryz.prog W = .ok (.string t) W := by
  simp [Instr.field, asAgg, go_sem]
@[go_sem] theorem fldT2 (k : Int) (t : ByteArray) (n o : Int) (W : World) : (Instr.field 138 (tokV k t n o) 2).run Tryz.prog W = .ok (.int .i64 n) W := by
  simp [Instr.field, asAgg, go_sem]

end Go.Proofs.YtlgdjeiendmniaaGreatDoor

namespace Go.Proofs.YtlgdjeiendmniaaGreatDoor
open Go.RowKit

theorem is_any (k : Int) (t : ByteArray) (n o : Int) (kd : Int) (s : ByteArray) (w : World) :
    Calls Tryz.prog 143 #[tokV k t n o, .int .i64 kd, .string s] w fun e w' => e = .returned (.bool ((k == kd) && (t.toList == s.toList))) ∧ Ext w w' := by
  cases hk : (k == kd)
  all_goals
    go_enter Tryz.func143, Tryz.ntmps143
    go_wp2
    go_ret
    exact ⟨rfl, Ext.alloc _ _⟩

theorem flat_at : ∀ (ts : List Tk) (k : Nat) (x : Tk), ts[k]? = some x → (ts.flatMap tkC)[k * 4]? = some (.int .i64 x.k) ∧ (ts.flatMap tkC)[k * 4 + 1]? = some (.string x.t) ∧ (ts.flatMap tkC)[k * 4 + 2]? = some (.int .i64 x.n) ∧ (ts.flatMap tkC)[k * 4 + 3]? = some (.int .i64 x.o)
  | [], k, x, h => by simp at h
  | y :: r, 0, x, h => by
    simp only [List.getElem?_cons_zero, Option.some.injEq] at h
    subst h
    exact ⟨rfl, rfl, rfl, rfl⟩
  | y :: r, k + 1, x, h => by
    rw [List.getElem?_cons_succ] at h
    obtain ⟨h0, h1, h2, h3⟩ := flat_at r k x h
    have e : ∀ i, ((y :: r).flatMap tkC)[(k + 1) * 4 + i]? = (r.flatMap tkC)[k * 4 + i]? := by
      intro i
      rw [List.flatMap_cons, List.getElem?_append_right (by show 4 ≤ _; omega)]
      congr 1
      show (k + 1) * 4 + i - 4 = _
      omega
    exact ⟨by rw [show (k + 1) * 4 = (k + 1) * 4 + 0 by omega, e]; exact h0, by rw [e]; exact h1, by rw [e]; exact h2, by rw [e]; exact h3⟩

/-- What the slice of the words left holds at a place. -/
theorem Sl.at {w : World} {g : Nat} {T : Value} {ts : List Tk} (h : Sl w g T ts) (m : Nat) (hm : m < ts.length) : ∃ (b off cap : Nat) (x : Tk), T = .slice (some ⟨b, off, none⟩) ts.length cap ∧ b < g ∧ ts.length ≤ cap ∧ cap ≤ 9223372036854775807 ∧ hdT ts m = x ∧
    w.cell? ⟨b, off + m * 4, none⟩ = some (.int .i64 x.k) ∧ w.cell? ⟨b, off + m * 4 + 1, none⟩ = some (.string x.t) ∧ w.cell? ⟨b, off + m * 4 + 2, none⟩ = some (.int .i64 x.n) ∧ w.cell? ⟨b, off + m * 4 + 3, none⟩ = some (.int .i64 x.o) := by
  obtain ⟨a, cap, rfl, h1, h2, h3⟩ := h
  rcases h3 with rfl | ⟨b, off, rfl, hb, hc⟩
  · simp at hm
  · obtain ⟨x, hx⟩ : ∃ x, ts[m]? = some x := ⟨_, List.getElem?_eq_getElem hm⟩
    obtain ⟨f0, f1, f2, f3⟩ := flat_at ts m x hx
    refine ⟨b, off, cap, x, rfl, hb, h1, h2, by unfold hdT; rw [hx]; rfl, hc _ _ f0, ?_, ?_, ?_⟩
    · have := hc _ _ f1; rw [← Nat.add_assoc] at this; exact this
    · have := hc _ _ f2; rw [← Nat.add_assoc] at this; exact this
    · have := hc _ _ f3; rw [← Nat.add_assoc] at this; exact this

set_option maxHeartbeats 1000000 in
theorem ahead_any (len g : Nat) (st : PS) (i : Int) (m : Nat) (hi : i = m) (w : World) (hS : St w g len st) :
    Calls Tryz.prog 111 #[.pointer (some ⟨g, 0, none⟩), .int .i64 i] w fun e w' => e = .returned (tokV (hdT st.ts m).k (hdT st.ts m).t (hdT st.ts m).n (hdT st.ts m).o) ∧ Ext w w' := by
  have hg : g < w.heap.size := hS.lt
  obtain ⟨T, h1, hT⟩ := hS.ex
  have c0 : w.cell? ⟨g, 0, none⟩ = some T := rowC h1 0 rfl
  by_cases hlt : m < st.ts.length
  · obtain ⟨b, off, cap, x, rfl, hb, hcap, hcm, hx, p0, p1, p2, p3⟩ := hT.at m hlt
    rw [hx]
    have hb2 : b < w.heap.size := by omega
    generalize st.ts.length = L at *
    clear hx hS h1
    go_enter Tryz.func111, Tryz.ntmps111
    go_wp2
    exact bodyPost_ret (v := tokV x.k x.t x.n x.o) (by simp [results, Tryz.results111, go_sem]) rfl ⟨rfl, Ext.alloc _ _⟩
  · obtain ⟨a, cap, rfl, h3, h4, -⟩ := hT
    have hle : ¬ (i < (st.ts.length : Int)) := by omega
    have e : hdT st.ts m = tkZ := by unfold hdT; rw [List.getElem?_eq_none (by omega)]; rfl
    rw [e]
    clear hlt hS h1
    go_enter Tryz.func111, Tryz.ntmps111
    go_wp2
    exact bodyPost_ret (v := tokV 0 ⟨#[]⟩ 0 0) (by simp [results, Tryz.results111, go_sem]) rfl ⟨rfl, Ext.alloc _ _⟩

theorem here_any (len g : Nat) (st : PS) (w : World) (hS : St w g len st) :
    Calls Tryz.prog 142 #[.pointer (some ⟨g, 0, none⟩)] w fun e w' => e = .returned (.int .i64 (st.here len)) ∧ w' = w := by
  obtain ⟨T, h1, hT⟩ := hS.ex
  have c0 : w.cell? ⟨g, 0, none⟩ = some T := rowC h1 0 rfl
  have c1 : w.cell? ⟨g, 1, none⟩ = some (.int .i64 (len : Int)) := rowC h1 1 rfl
  cases hts : st.ts with
  | nil =>
    rw [hts] at hT
    obtain ⟨a, cap, rfl, h3, h4, -⟩ := hT
    have e : st.here len = len := by unfold PS.here; rw [hts]
    rw [e]
    clear hS h1 hts e
    go_enter Tryz.func142, Tryz.ntmps142
    go_wp2
    go_ret
    exact ⟨rfl, rfl⟩
  | cons t r =>
    obtain ⟨b, off, cap, x, rfl, hb, hcap, hcm, hx, p0, p1, p2, p3⟩ := hT.at 0 (by rw [hts]; simp)
    have hx2 : t = x := by rw [← hx, hts]; rfl
    subst hx2
    have e : st.here len = t.o := by unfold PS.here; rw [hts]
    have hl : st.ts.length = r.length + 1 := by rw [hts]; rfl
    rw [e]
    rw [hl] at c0 hcap
    simp only [Nat.zero_mul, Nat.add_zero] at p3
    have hz : (((r.length + 1 : Nat) : Int) == 0) = false := by simp; omega
    have hz0 : 0 < r.length + 1 := by omega
    generalize r.length + 1 = L at *
    clear hS h1 hts e hx hl hT
    go_enter Tryz.func142, Tryz.ntmps142
    go_wp2
    go_ret
    exact ⟨rfl, rfl⟩

theorem ended_any (len g : Nat) (st : PS) (w : World) (hS : St w g len st) :
    Calls Tryz.prog 48 #[.pointer (some ⟨g, 0, none⟩)] w fun e w' => e = .returned (.bool ((st.ts.length : Int) == 0)) ∧ w' = w := by
  obtain ⟨T, h1, hT⟩ := hS.ex
  have c0 : w.cell? ⟨g, 0, none⟩ = some T := rowC h1 0 rfl
  obtain ⟨a, cap, rfl, h3, h4, -⟩ := hT
  generalize st.ts.length = L at *
  clear hS h1
  go_enter Tryz.func48, Tryz.ntmps48
  go_wp2
  go_ret
  exact ⟨rfl, rfl⟩

theorem isSign_any (len g : Nat) (st : PS) (s : ByteArray) (w : World) (hS : St w g len st) :
    Calls Tryz.prog 114 #[.pointer (some ⟨g, 0, none⟩), .string s] w fun e w' => e = .returned (.bool (st.isS s)) ∧ Ext w w' := by
  have HA := hide (ahead_any len g st 0 0 rfl w hS)
  unfold PS.isS isT
  clear hS
  go_enter Tryz.func114, Tryz.ntmps114
  go_wp2_with (first
    | (go_at_call 111; refine Calls.mono (unhide HA) ?_; rintro e w1 ⟨rfl, hw⟩; have X := hide hw; clear hw)
    | (go_at_call 143; refine Calls.mono (is_any _ _ _ _ _ _ _) ?_; rintro e w2 ⟨rfl, hw⟩; have Y := hide ((unhide X).trans hw); clear hw))
  go_ret
  exact ⟨rfl, unhide Y⟩

theorem isWord_p (len g : Nat) (st : PS) (s : ByteArray) (w : World) (hS : St w g len st) :
    Calls Tryz.prog 141 #[.pointer (some ⟨g, 0, none⟩), .string s] w fun e w' => e = .returned (.bool (st.isW s)) ∧ Ext w w' := by
  have HA := hide (ahead_any len g st 0 0 rfl w hS)
  unfold PS.isW isT
  clear hS
  go_enter Tryz.func141, Tryz.ntmps141
  go_wp2_with (first
    | (go_at_call 111; refine Calls.mono (unhide HA) ?_; rintro e w1 ⟨rfl, hw⟩; have X := hide hw; clear hw)
    | (go_at_call 143; refine Calls.mono (is_any _ _ _ _ _ _ _) ?_; rintro e w2 ⟨rfl, hw⟩; have Y := hide ((unhide X).trans hw); clear hw))
  go_ret
  exact ⟨rfl, unhide Y⟩

theorem fail_any (len g : Nat) (st : PS) (c : Int) (w : World) (hS : St w g len st) :
    Calls Tryz.prog 110 #[.pointer (some ⟨g, 0, none⟩), .int .i64 c] w fun e w' => e = .returned (.tuple #[]) ∧ St w' g len (st.fail len c) ∧ Gr g w w' := by
  have HH := hide (here_any len g st w hS)
  obtain ⟨T, h1, hT⟩ := hS.ex
  have c0 : w.cell? ⟨g, 0, none⟩ = some T := rowC h1 0 rfl
  have c3 : w.cell? ⟨g, 3, none⟩ = some (.int .i64 st.pl) := rowC h1 3 rfl
  have c4 : w.cell? ⟨g, 4, none⟩ = some (.int .i64 st.e) := rowC h1 4 rfl
  have zf := rowF h1
  unfold PS.fail
  by_cases he : st.e = 0
  · rw [if_pos he]
    have H1 := hide h1
    have HE := hide he
    rw [he] at c4
    clear hS h1 hT he
    go_enter Tryz.func110, Tryz.ntmps110
    go_wp2_with (go_at_call 142; refine Calls.mono (unhide HH) ?_; rintro e w1 ⟨rfl, hw⟩; obtain rfl := hw.symm)
    go_end0
    refine ⟨rfl, ⟨⟨_, row_set (row_set (row_set (unhide H1) _ _) _ _) _ _, slNil _ _⟩⟩, Gr.set (Gr.set (Gr.set (Gr.refl g w) (p := ⟨g, _, none⟩) (Or.inr rfl) _) (p := ⟨g, _, none⟩) (Or.inr rfl) _) (p := ⟨g, _, none⟩) (Or.inr rfl) _⟩
  · rw [if_neg he]
    have H1 := hide h1
    have he2 : (st.e == 0) = false := by simpa using he
    clear hS h1 hT he
    go_enter Tryz.func110, Tryz.ntmps110
    go_wp2_with (go_at_call 142; refine Calls.mono (unhide HH) ?_; rintro e w1 ⟨rfl, hw⟩; obtain rfl := hw.symm)
    go_end0
    refine ⟨rfl, ⟨⟨_, row_set (unhide H1) _ _, slNil _ _⟩⟩, Gr.set (Gr.refl g w) (p := ⟨g, _, none⟩) (Or.inr rfl) _⟩

end Go.Proofs.YtlgdjeiendmniaaGreatDoor
