/- A function under way in the document's own reader: its variable, the row of its parameters. · A function without parameters, in the document's own reader. -/
import Derived.Test.YtgkiihjakbnhcaaGreatDoorZc30
import Derived.Test.YtgkiihjakbnhcaaGreatDoorZc34
import Derived.OneCell
set_option linter.unusedSimpArgs false
set_option linter.unusedVariables false
set_option maxRecDepth 10000

namespace Go.Proofs.YtgkiihjakbnhcaaGreatDoor
open Go.RowKit

variable {w w' wr w2 : World} {g len : Nat} {T : List Tk} {wd : Int} {st : PS}

theorem own_ne {W : World} {B base size n : Nat} {cs : Array Value} {t e : TypeId} {v : Value} {xs : List Value} (ho : W.ownsRow base e size v n xs) (hB : W.heap[B]? = some (.cells cs t (0, 0))) (hne : t ≠ e) : v.ownBlock ≠ some B := by
  rcases ho.2 with ⟨rfl, _⟩ | ⟨b, cap, cur, rfl, _, hg, _⟩
  · simp [Value.ownBlock]
  · intro e1
    simp only [Value.ownBlock, Option.some.injEq] at e1
    subst e1
    rw [hg] at hB
    injection hB with hB
    injection hB with _ h2 _
    exact hne h2.symm

theorem Rp.wide (h : Rp w g len T wd st) (wd' : Int) : Rp (w.setCell ⟨g, 6, none⟩ (.int .i64 wd')) g len T wd' st := by
  obtain ⟨V, i, pl, dp, h1, h2, h3⟩ := h.ex
  exact ⟨⟨V, i, pl, dp, row_set h1 6 _, h2.on ((Gr.refl _ _).set (p := ⟨g, 6, none⟩) (Or.inr rfl) _), h3⟩, h.nv, h.tk, h.tl⟩

/-- The call's result lies in the block behind what stood, its function in the block B, its n parameters in a row of another block. -/
structure FS (g len : Nat) (T : List Tk) (wd : Int) (w wr : World) (B : Nat) (st : PS) (nm : ByteArray) (ps : List ByteArray) (n : Nat) (ao : Option Addr) (cap : Nat) : Prop where
  hg : g < w.heap.size
  hB : w.heap.size < B
  hn : ps.length = n
  rs : Rp wr g len T wd st
  gr : Gr g w wr
  r2 : wr.heap[w.heap.size]? = some (funO emptyB none 0 0 0 0 emptyB 0 none 0 0)
  r3 : wr.heap[B]? = some (funO nm ao n cap 0 0 emptyB 0 none 0 0)
  own : wr.ownsRow (w.heap.size + 1) 9 1 (.slice ao n cap) n (ps.map Value.string)

variable {B : Nat} {nm : ByteArray} {ps : List ByteArray} {n : Nat} {ao : Option Addr} {cap : Nat}

theorem FS.start (hg : g < w.heap.size) (hr2 : wr.heap[w.heap.size]? = some (funO emptyB none 0 0 0 0 emptyB 0 none 0 0)) (hgr : Gr g w wr) (hs : Rp wr g len T wd st) (nm : ByteArray) :
    FS g len T wd w (wr.alloc (funO nm none 0 0 0 0 emptyB 0 none 0 0)) wr.heap.size st nm [] 0 none 0 :=
  ⟨hg, (Array.getElem?_eq_some_iff.1 hr2).1, rfl, hs.ext (Ext.alloc _ _), hgr.alloc _, (Ext.alloc _ _).row hr2, Go.heap_alloc_new wr _, World.ownsRow_nil _ _ _ _⟩
theorem FS.lt (h : FS g len T wd w wr B st nm ps n ao cap) : B < wr.heap.size := (Array.getElem?_eq_some_iff.1 h.r3).1
theorem FS.go {st' : PS} (h : FS g len T wd w wr B st nm ps n ao cap) (hs : Rp w2 g len T wd st') (hw : Gr g wr w2) : FS g len T wd w w2 B st' nm ps n ao cap := by
  have hg := h.hg
  have hB := h.hB
  exact ⟨h.hg, h.hB, h.hn, hs, h.gr.trans hw, hw.row h.r2 (by omega), hw.row h.r3 (by omega), own_gr h.own hw (by omega)⟩
theorem FS.ownAt (h : FS g len T wd w wr B st nm ps n ao cap) (hw : Gr g wr w2) : w2.ownsRow (w.heap.size + 1) 9 1 (.slice ao n cap) n (ps.map Value.string) := own_gr h.own hw (by have := h.hg; omega)
theorem FS.grown {wa w6 : World} (h : FS g len T wd w wr B st nm ps n ao cap) (X5 : Gr g wr wa) (hgw : wa.grownBy w6 (Value.slice ao n cap).ownBlock) :
    w6.heap[B]? = some (funO nm ao n cap 0 0 emptyB 0 none 0 0) := by
  have hg := h.hg
  have hB := h.hB
  have h1 := h.lt
  have hne := own_ne h.own h.r3 (by decide)
  exact (hgw.block B (Nat.lt_of_lt_of_le h1 X5.size) (fun e => hne e.symm)).trans (X5.row h.r3 (by omega))
/-- Behind an append of a name, and the store of the slice. -/
theorem FS.snoc {w5 w6 : World} {st5 : PS} {g' cap' : Nat} {s : ByteArray} (h : FS g len T wd w wr B st nm ps n ao cap) (X5 : Gr g wr w5) (S5 : Rp w5 g len T wd st5) (ob : Obj)
    (ho : w6.ownsRow (w.heap.size + 1) 9 1 (.slice (some ⟨g', 0, none⟩) (n + 1) cap') (n + 1) (ps.map Value.string ++ [.string s])) (hgw : (w5.alloc ob).grownBy w6 (Value.slice ao n cap).ownBlock) :
    FS g len T wd w (w6.setCell ⟨B, 1, none⟩ (.slice (some ⟨g', 0, none⟩) (n + 1) cap')) B st5 nm (ps ++ [s]) (n + 1) (some ⟨g', 0, none⟩) cap' := by
  have hg := h.hg
  have hB := h.hB
  have hn := h.hn
  have h1 := h.lt
  have X6 : Gr g wr (w5.alloc ob) := X5.alloc ob
  have hz := X6.size
  have hx := h.ownAt X6
  have hk := below_grown hx hgw
  have R3 := h.grown X6 hgw
  have R2 : w6.heap[w.heap.size]? = some (funO emptyB none 0 0 0 0 emptyB 0 none 0 0) := (hk _ (by omega) (by omega)).trans (X6.row h.r2 (by omega))
  have S6 : Rp w6 g len T wd st5 := (S5.ext (Ext.alloc _ ob)).append (by omega) hx hgw
  have G6 : Gr g w w6 := Gr.append (h.gr.trans X6) hx (by omega) hgw
  have hne := own_ne ho R3 (by decide)
  exact ⟨hg, hB, by simp [hn], S6.put (by omega) _ _, G6.set (p := ⟨B, 1, none⟩) (Or.inl (by show w.heap.size ≤ B; omega)) _, row_other R2 (by omega) _ _, row_set R3 1 _, by rw [List.map_append]; exact ownsRow_setCell_other ho hne _⟩
/-- A state that the reader stands in just as well. -/
theorem FS.as {r : PS} (h : FS g len T wd w wr B st nm ps n ao cap) (k : Kp st r) (h0 : st.e ≠ 0) : FS g len T wd w wr B r nm ps n ao cap := ⟨h.hg, h.hB, h.hn, h.rs.as k h0, h.gr, h.r2, h.r3, h.own⟩

/-- The same with its body. -/
structure FB (g len : Nat) (T : List Tk) (wd : Int) (w wr : World) (B : Nat) (st : PS) (nm : ByteArray) (ps : List ByteArray) (n : Nat) (ao : Option Addr) (cap : Nat) (k o : Int) (s : ByteArray) (n2 : Int) (l : List PN) (ln : Nat) (a : Option Addr) (c : Nat) : Prop where
  hg : g < w.heap.size
  hB : w.heap.size < B
  hn : ps.length = n
  hl : l.length = ln
  rs : Rp wr g len T wd st
  gr : Gr g w wr
  r2 : wr.heap[w.heap.size]? = some (funO emptyB none 0 0 0 0 emptyB 0 none 0 0)
  r3 : wr.heap[B]? = some (funO nm ao n cap k o s n2 a ln c)
  hcap : n ≤ cap
  hc : ln ≤ c
  rps : RepS wr (Fr (w.heap.size + 1) wr.heap.size) ps ao
  rpl : RepNL wr (Fr (w.heap.size + 1) wr.heap.size) l a

abbrev setB (w : World) (B : Nat) (k o : Int) (s : ByteArray) (n : Int) (a : Option Addr) (ln c : Nat) : World := (((((w).setCell ⟨B, 2, none⟩ (.int .i64 k)).setCell ⟨B, 3, none⟩ (.int .i64 o)).setCell ⟨B, 4, none⟩ (.string s)).setCell ⟨B, 5, none⟩ (.int .i64 n)).setCell ⟨B, 6, none⟩ (.slice a ln c)

theorem FS.body {w5 : World} {st5 : PS} {k o n2 : Int} {s : ByteArray} {l : List PN} {a : Option Addr} {c : Nat} (h : FS g len T wd w wr B st nm ps n ao cap) (hs : Rp w5 g len T wd st5) (hw : Gr g wr w5) (hl : RepNL w5 (Fr wr.heap.size w5.heap.size) l a) (hc : l.length ≤ c) :
    FB g len T wd w (setB w5 B k o s n2 a l.length c) B st5 nm ps n ao cap k o s n2 l l.length a c := by
  have hg := h.hg
  have hB := h.hB
  have hn := h.hn
  have h1 := h.lt
  have hz := hw.size
  have h9 := h.go hs hw
  have hne := own_ne h9.own h9.r3 (by decide)
  have hsz : (setB w5 B k o s n2 a l.length c).heap.size = w5.heap.size := by simp [World.setCell]
  have hbl : ∀ b, b ≠ B → (setB w5 B k o s n2 a l.length c).heap[b]? = w5.heap[b]? := fun b hb => by
    rw [Below.heap_setCell _ _ _ _ hb, Below.heap_setCell _ _ _ _ hb, Below.heap_setCell _ _ _ _ hb, Below.heap_setCell _ _ _ _ hb, Below.heap_setCell _ _ _ _ hb]
  have hgr : Gr g w (setB w5 B k o s n2 a l.length c) := ((((h9.gr.set (p := ⟨B, 2, none⟩) (Or.inl (by show w.heap.size ≤ B; omega)) _).set (p := ⟨B, 3, none⟩) (Or.inl (by show w.heap.size ≤ B; omega)) _).set (p := ⟨B, 4, none⟩) (Or.inl (by show w.heap.size ≤ B; omega)) _).set (p := ⟨B, 5, none⟩) (Or.inl (by show w.heap.size ≤ B; omega)) _).set (p := ⟨B, 6, none⟩) (Or.inl (by show w.heap.size ≤ B; omega)) _
  have hr3 : (setB w5 B k o s n2 a l.length c).heap[B]? = some (funO nm ao n cap k o s n2 a l.length c) := by
    have h7 := row_set (row_set (row_set (row_set (row_set h9.r3 2 (.int .i64 k)) 3 (.int .i64 o)) 4 (.string s)) 5 (.int .i64 n2)) 6 (.slice a l.length c)
    simpa only [List.setIfInBounds_toArray, List.set_cons_zero, List.set_cons_succ] using h7
  have ho2 : (setB w5 B k o s n2 a l.length c).ownsRow (w.heap.size + 1) 9 1 (.slice ao n cap) n (ps.map Value.string) :=
    ownsRow_setCell_other (ownsRow_setCell_other (ownsRow_setCell_other (ownsRow_setCell_other (ownsRow_setCell_other h9.own hne _) hne _) hne _) hne _) hne _
  subst hn
  obtain ⟨d1, d2⟩ := own_S ho2
  refine ⟨hg, hB, rfl, rfl, ((((hs.put (by omega) _ _).put (by omega) _ _).put (by omega) _ _).put (by omega) _ _).put (by omega) _ _, hgr, (hbl _ (by omega)).trans h9.r2, hr3, d1, hc, d2, RepNL.to (fun b hb => ?_) _ _ hl⟩
  have q1 := hb.1
  have q2 := hb.2
  exact ⟨⟨by omega, by rw [hsz]; exact q2⟩, hbl b (by omega)⟩

/-- The most parameters so far. -/
abbrev widP (wd : Int) (n : Nat) : Int := max wd (n : Int)
/-- What a call that reads a function answers: the function, if nothing failed. -/
def RFun (w : World) (g len : Nat) (T : List Tk) (wd : Int) (r : PFn × PS) (e : Ending) (w' : World) : Prop :=
  ∃ v p, e = .returned v ∧ RepFn w' (Fr w.heap.size w'.heap.size) p v ∧ (r.2.e = 0 → p = r.1) ∧ Rp w' g len T (widP wd p.ps.length) r.2 ∧ Gr g w w'

variable {k o : Int} {s : ByteArray} {n2 : Int} {l : List PN} {ln : Nat} {a : Option Addr} {c : Nat}
theorem FB.end (h : FB g len T wd w wr B st nm ps n ao cap k o s n2 l ln a c) (X : Int) : (set7 (wr.setCell ⟨g, 6, none⟩ (.int .i64 X)) w.heap.size nm ao n cap k o s n2 a ln c).drew.heap[w.heap.size]? = some (funO nm ao n cap k o s n2 a ln c) :=
  (Ext.drew (Ext.refl _)).row (set7_row (row_other h.r2 (by have := h.hg; show w.heap.size ≠ g; omega) _ _) _ _ _ _ _ _ _ _ _ _ _)
theorem FB.q (h : FB g len T wd w wr B st nm ps n ao cap k o s n2 l ln a c) (X : Int) : (wr.setCell ⟨g, 6, none⟩ (.int .i64 X)).drew.heap[B]? = some (funO nm ao n cap k o s n2 a ln c) :=
  (Ext.drew (Ext.refl _)).row (row_other h.r3 (by have := h.hg; have := h.hB; show B ≠ g; omega) _ _)
theorem FB.r (h : FB g len T wd w wr B st nm ps n ao cap k o s n2 l ln a c) (X : Int) : (wr.setCell ⟨g, 6, none⟩ (.int .i64 X)).drew.heap[w.heap.size]? = some (funO emptyB none 0 0 0 0 emptyB 0 none 0 0) :=
  (Ext.drew (Ext.refl _)).row (row_other h.r2 (by have := h.hg; show w.heap.size ≠ g; omega) _ _)
theorem RFun.ext {r : PFn × PS} {e : Ending} {w1 w2 : World} (h : RFun w g len T wd r e w1) (x : Ext w1 w2) : RFun w g len T wd r e w2 := by
  obtain ⟨v, p, he, ⟨pa, pc, a, cap, hv, h1, h2, h3, h4⟩, hp, hs, hg⟩ := h
  have hb : ∀ b, Fr w.heap.size w1.heap.size b → Fr w.heap.size w2.heap.size b ∧ w2.heap[b]? = w1.heap[b]? := fun b hb => ⟨⟨hb.1, Nat.lt_of_lt_of_le hb.2 x.size⟩, x.block b hb.2⟩
  exact ⟨v, p, he, ⟨pa, pc, a, cap, hv, h1, h2.to hb, h3, RepNL.to hb _ _ h4⟩, hp, hs.ext x, hg.trans (Gr.of x)⟩
theorem FB.fin {r : PFn × PS} (h : FB g len T wd w wr B r.2 nm ps n ao cap k o s n2 l ln a c) (hp : r.2.e = 0 → (⟨nm, ps, ⟨k, o, s, n2, l⟩⟩ : PFn) = r.1) :
    RFun w g len T wd r (.returned (funV nm ao n cap k o s n2 a ln c)) (set7 (wr.setCell ⟨g, 6, none⟩ (.int .i64 (max wd (n : Int)))) w.heap.size nm ao n cap k o s n2 a ln c).drew := by
  have hg := h.hg
  have hn := h.hn
  have hl := h.hl
  subst hn hl
  refine RFun.ext ?_ (Ext.drew (Ext.refl _))
  generalize hXX : max wd (ps.length : Int) = X
  have hsz : (wr.setCell ⟨g, 6, none⟩ (.int .i64 X)).heap.size = wr.heap.size := by simp [World.setCell]
  have hb : ∀ b, Fr (w.heap.size + 1) wr.heap.size b → Fr w.heap.size (set7 (wr.setCell ⟨g, 6, none⟩ (.int .i64 X)) w.heap.size nm ao ps.length cap k o s n2 a l.length c).heap.size b ∧ (set7 (wr.setCell ⟨g, 6, none⟩ (.int .i64 X)) w.heap.size nm ao ps.length cap k o s n2 a l.length c).heap[b]? = wr.heap[b]? := fun b hb => by
    have q1 := hb.1
    have q2 := hb.2
    refine ⟨⟨by omega, by rw [set7_size, hsz]; exact q2⟩, ?_⟩
    rw [set7_block (by omega), Below.heap_setCell _ _ _ _ (by show b ≠ g; omega)]
  have S : Rp (wr.setCell ⟨g, 6, none⟩ (.int .i64 X)) g len T X r.2 := h.rs.wide X
  refine ⟨_, ⟨nm, ps, ⟨k, o, s, n2, l⟩⟩, rfl, ⟨ao, cap, a, c, rfl, h.hcap, h.rps.to hb, h.hc, RepNL.to hb _ _ h.rpl⟩, hp, ?_, ((h.gr).set (p := ⟨g, 6, none⟩) (Or.inr rfl) _).set7 (Nat.le_refl _) _ _ _ _ _ _ _ _ _ _ _⟩
  have e9 : widP wd (⟨nm, ps, ⟨k, o, s, n2, l⟩⟩ : PFn).ps.length = X := hXX
  rw [e9]
  exact ((((((S.put hg _ _).put hg _ _).put hg _ _).put hg _ _).put hg _ _).put hg _ _).put hg _ _
theorem enterRNm (v : Value) (w : World) : (callFunc 28 #[v]).run Tryz.prog w = .ok (.enter 28 #[v]) w := by kernel_rfl
theorem takeS_no (h : Rp w g len T wd st) (s : ByteArray) (hs : wordL s.toList = false) (hW : st.isS s = false) : Calls Tryz.prog 29 #[.pointer (some ⟨g, 0, none⟩), .string s] w (RAns w g len T wd (.bool false) st) := by
  have := take_s h s hs
  have e : st.takeS s = (false, st) := by unfold PS.takeS; rw [hW]; rfl
  rw [e] at this
  exact this
theorem takeS_yes (h : Rp w g len T wd st) (s : ByteArray) (hs : wordL s.toList = false) (hW : st.isS s = true) : Calls Tryz.prog 29 #[.pointer (some ⟨g, 0, none⟩), .string s] w (RAns w g len T wd (.bool true) st.next) := by
  have := take_s h s hs
  have e : st.takeS s = (true, st.next) := by unfold PS.takeS; rw [hW]; rfl
  rw [e] at this
  exact this

end Go.Proofs.YtgkiihjakbnhcaaGreatDoor

namespace Go.Proofs.YtgkiihjakbnhcaaGreatDoor
open Go.RowKit

variable {w w' : World} {g len : Nat} {T : List Tk} {wd : Int} {st : PS}

set_option maxHeartbeats 8000000 in
theorem function_none (bl : Rdr) (f : Nat) (hgb : GoodR bl) (hbl : RBlk g len T wd bl (funB len f st).2) (hS : ((funA len st).2.sign len ⟨#[40]⟩).isS ⟨#[41]⟩ = true) (h : Rp w g len T wd st) :
    Calls Tryz.prog 12 #[.pointer (some ⟨g, 0, none⟩)] w (RFun w g len T wd (funP len bl f st)) := by
  have hg := h.lt
  have n1 := (pword_kp h.nv len ⟨#[102, 110]⟩).nv h.nv
  have n2 := (name_kp n1 len).nv n1
  have n3 := (psign_kp n2 len ⟨#[40]⟩).nv n2
  have HFn := hide (fun (W : World) (x : Rp W g len T wd st) => want_w x ⟨#[102, 110]⟩ (by decide +kernel))
  have HNm : Hd (∀ W, Rp W g len T wd (st.word len ⟨#[102, 110]⟩) → Calls Tryz.prog 28 #[.pointer (some ⟨g, 0, none⟩)] W (RAns W g len T wd (.string (funA len st).1) (funA len st).2)) := fun W x => name_r x
  have HOp := hide (fun (W : World) (x : Rp W g len T wd (funA len st).2) => want_s x ⟨#[40]⟩ (by decide +kernel))
  have H := hide h
  have HBl := hide hbl
  unfold RBlk at HBl
  have HTk := hide (fun (W : World) (x : Rp W g len T wd ((funA len st).2.sign len ⟨#[40]⟩)) => takeS_yes x ⟨#[41]⟩ (by decide +kernel) hS)
  have eB : funB len f st = ([], ((funA len st).2.sign len ⟨#[40]⟩).next) := by unfold funB parP; rw [hS]; rfl
  obtain ⟨RS, hRS⟩ : ∃ RS, RS = funP len bl f st := ⟨_, rfl⟩
  rw [← hRS]
  have hRS2 : RS = (⟨(funA len st).1, [], (bl (funB len f st).2).1⟩, (bl (funB len f st).2).2) := by rw [hRS, funP, eB]
  have HRS1 : Hd (RS.1 = ⟨(funA len st).1, [], (bl (funB len f st).2).1⟩) := by rw [Hd, hRS2]
  have hRS3 : (bl (funB len f st).2).2 = RS.2 := by rw [hRS2]
  obtain ⟨bq, hbq⟩ : ∃ bq, bq = bl (funB len f st).2 := ⟨_, rfl⟩
  rw [← hbq] at HBl HRS1 hRS3
  rw [eB] at HBl
  clear h hbl hgb n1 n2 n3 hRS hRS2 eB hS hbq
  obtain ⟨bq1, bq2⟩ := bq
  simp only at hRS3 HRS1
  subst hRS3
  generalize (funA len st).2.sign len ⟨#[40]⟩ = u3 at *
  generalize funA len st = qa at *
  obtain ⟨fnm, u2⟩ := qa
  simp only at *
  have hwg : (w.heap.size == g) = false := by simp; omega
  go_enter Tryz.func12, Tryz.ntmps12
  go_wp2_with (first
    | (have T9 := unhide H; go_at_call 27; refine Calls.mono (unhide HFn _ (T9.ext (Ext.alloc _ _))) ?_; rintro e w1 ⟨rfl, hs, hw⟩; have S1 := hide hs; have G1 := hide ((Gr.of (Ext.alloc w _)).trans hw); have R1 := hide (hw.row (Go.heap_alloc_new w _) (by omega)); clear hw hs T9 H)
    | (have T9 := unhide S1; go_at_call 28; refine Calls.mono (unhide HNm _ T9) ?_; rintro e w2 ⟨rfl, hs, hw⟩; have N2 := hide (FS.start hg (hw.row (unhide R1) (by omega)) ((unhide G1).trans hw) hs fnm); clear hw hs T9 S1 R1 G1)
    | (have T9 := unhide N2; go_at_call 27; refine Calls.mono (unhide HOp _ T9.rs) ?_; rintro e w3 ⟨rfl, hs, hw⟩; have N3 := hide (T9.go hs hw); clear hw hs T9 N2)
    | (have T9 := unhide N3; go_at_call 29; refine Calls.mono (unhide HTk _ T9.rs) ?_; rintro e w4 ⟨rfl, hs, hw⟩; have N4 := hide (T9.go hs hw); clear hw hs T9 N3)
    | (have T9 := unhide N4; go_at_call 30; refine Calls.mono (unhide HBl _ T9.rs) ?_; rintro e w5 ⟨v, p5, rfl, hr, hp, hs, hw⟩; obtain ⟨k2, o2, s2, n2, l2⟩ := p5; rw [RepN] at hr; obtain ⟨a2, cap2, rfl, hcap2, hl3⟩ := hr; have NB := hide (T9.body (k := k2) (o := o2) (s := s2) (n2 := n2) hs hw hl3 hcap2); have P5 := hide hp; have d0 := rowC (T9.go hs hw).r3 0 rfl; have d1 := rowC (T9.go hs hw).r3 1 rfl; have d2 := rowC (T9.go hs hw).r3 2 rfl; have d3 := rowC (T9.go hs hw).r3 3 rfl; have d4 := rowC (T9.go hs hw).r3 4 rfl; have d5 := rowC (T9.go hs hw).r3 5 rfl; have d6 := rowC (T9.go hs hw).r3 6 rfl; have dz := rowF (T9.go hs hw).r3; clear hw hs hl3 hp T9 N4))
  refine gen_world (F := fun W => Code.wp _ _ _ _ W) ?_
  intro W9 hW9
  have NC0 : FB g len T wd w W9 w2.heap.size RS.2 fnm [] 0 none 0 k2 o2 s2 n2 l2 l2.length a2 cap2 := by rw [hW9]; exact unhide NB
  obtain ⟨lnq, NC1⟩ : ∃ m, FB g len T wd w W9 w2.heap.size RS.2 fnm [] 0 none 0 k2 o2 s2 n2 l2 m a2 cap2 := ⟨_, NC0⟩
  obtain ⟨nq, NC2⟩ : ∃ m, FB g len T wd w W9 w2.heap.size RS.2 fnm [] m none 0 k2 o2 s2 n2 l2 lnq a2 cap2 := ⟨_, NC1⟩
  have NC := hide NC2
  clear NC0 NC1 NC2 NB hW9
  clear d0 d1 d2 d3 d4 d5 d6 dz
  have hBB := (unhide NC).hB
  have hne1 : (w2.heap.size == g) = false := by simp; omega
  have hne2 : (w.heap.size == w2.heap.size) = false := by simp; omega
  have d1 : W9.cell? ⟨w2.heap.size, 1, none⟩ = some (.slice none nq 0) := rowC (unhide NC).r3 1 rfl
  obtain ⟨V9, i9, pl9, dp9, hrow9, -⟩ := (unhide NC).rs.ex
  have c6 : W9.cell? ⟨g, 6, none⟩ = some (.int .i64 wd) := rowC hrow9 6 rfl
  have cz := rowF hrow9
  clear hrow9
  refine wp_nrm ?_
  first | skip; go_region_law (first | fail) | fail
  all_goals
    refine nrm_inB ?_
    have RQ := (unhide NC).r3
    have RR := (unhide NC).r2
    clear d1
    have q0 := rowC RQ 0 rfl
    have q1 := rowC RQ 1 rfl
    have q2 := rowC RQ 2 rfl
    have q3 := rowC RQ 3 rfl
    have q4 := rowC RQ 4 rfl
    have q5 := rowC RQ 5 rfl
    have q6 := rowC RQ 6 rfl
    have qz := rowF RQ
    have r0 := rowC RR 0 rfl
    have r1 := rowC RR 1 rfl
    have r2 := rowC RR 2 rfl
    have r3 := rowC RR 3 rfl
    have r4 := rowC RR 4 rfl
    have r5 := rowC RR 5 rfl
    have r6 := rowC RR 6 rfl
    have rz := rowF RR
    clear RQ RR
    go_wp2_with fail
    exact bodyPost_ret (v := funV fnm none nq 0 k2 o2 s2 n2 a2 lnq cap2) (res_fun Tryz.results12 _ _ w.heap.size _ _ _ _ _ _ _ _ _ _ _ rfl ((unhide NC).end _)) rfl ((unhide NC).fin (fun e => by rw [unhide P5 e, unhide HRS1]))

end Go.Proofs.YtgkiihjakbnhcaaGreatDoor
