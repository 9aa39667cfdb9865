/- A function. · Functions. · A reader at a text's begin; too many functions or parameters; all functions of a text. · Going through a function's names, as plain functions. -/
import Derived.Test.YteajjfhehicfgaaGreatDoorZb10
import Derived.Maps.OwnSet
import Derived.StringKeys
set_option linter.unusedSimpArgs false
set_option linter.unusedVariables false
set_option maxRecDepth 10000

namespace Go.Proofs.YteajjfhehicfgaaGreatDoor
open Go.RowKit

abbrev funV (nm : ByteArray) (pa : Option Addr) (pn pc : Nat) (k o : Int) (s : ByteArray) (n : Int) (a : Option Addr) (ln cap : Nat) : Value := .agg #[.string nm, .slice pa pn pc, .int .i64 k, .int .i64 o, .string s, .int .i64 n, .slice a ln cap]
abbrev funO (nm : ByteArray) (pa : Option Addr) (pn pc : Nat) (k o : Int) (s : ByteArray) (n : Int) (a : Option Addr) (ln cap : Nat) : Obj := .cells #[.string nm, .slice pa pn pc, .int .i64 k, .int .i64 o, .string s, .int .i64 n, .slice a ln cap] 62 (0, 0)
abbrev set7 (w : World) (b : Nat) (nm : ByteArray) (pa : Option Addr) (pn pc : Nat) (k o : Int) (s : ByteArray) (n : Int) (a : Option Addr) (ln cap : Nat) : World := (((((((w).setCell ⟨b, 0, none⟩ (.string nm)).setCell ⟨b, 1, none⟩ (.slice pa pn pc)).setCell ⟨b, 2, none⟩ (.int .i64 k)).setCell ⟨b, 3, none⟩ (.int .i64 o)).setCell ⟨b, 4, none⟩ (.string s)).setCell ⟨b, 5, none⟩ (.int .i64 n)).setCell ⟨b, 6, none⟩ (.slice a ln cap)
theorem St.set7 {w : World} {g len : Nat} {st : PS} (h : St w g len st) {b : Nat} (hb : g < b) (nm : ByteArray) (pa : Option Addr) (pn pc : Nat) (k o : Int) (s : ByteArray) (n : Int) (a : Option Addr) (ln cap : Nat) : St (set7 w b nm pa pn pc k o s n a ln cap) g len st :=
  ((((((h.set hb _ _).set hb _ _).set hb _ _).set hb _ _).set hb _ _).set hb _ _).set hb _ _
theorem Gr.set7 {g : Nat} {a0 w : World} (h : Gr g a0 w) {b : Nat} (hb : a0.heap.size ≤ b) (nm : ByteArray) (pa : Option Addr) (pn pc : Nat) (k o : Int) (s : ByteArray) (n : Int) (a : Option Addr) (ln cap : Nat) : Gr g a0 (set7 w b nm pa pn pc k o s n a ln cap) :=
  ((((((h.set (Or.inl hb) _).set (Or.inl hb) _).set (Or.inl hb) _).set (Or.inl hb) _).set (Or.inl hb) _).set (Or.inl hb) _).set (Or.inl hb) _
theorem set7_row {w : World} {b : Nat} {c0 c1 c2 c3 c4 c5 c6 : Value} (h : w.heap[b]? = some (.cells #[c0, c1, c2, c3, c4, c5, c6] 62 (0, 0))) (nm : ByteArray) (pa : Option Addr) (pn pc : Nat) (k o : Int) (s : ByteArray) (n : Int) (a : Option Addr) (ln cap : Nat) : (set7 w b nm pa pn pc k o s n a ln cap).heap[b]? = some (funO nm pa pn pc k o s n a ln cap) := by
  have h7 := row_set (row_set (row_set (row_set (row_set (row_set (row_set h 0 (.string nm)) 1 (.slice pa pn pc)) 2 (.int .i64 k)) 3 (.int .i64 o)) 4 (.string s)) 5 (.int .i64 n)) 6 (.slice a ln cap)
  simpa only [List.setIfInBounds_toArray, List.set_cons_zero, List.set_cons_succ] using h7
theorem set7_block {w : World} {b x : Nat} (hx : x ≠ b) (nm : ByteArray) (pa : Option Addr) (pn pc : Nat) (k o : Int) (s : ByteArray) (n : Int) (a : Option Addr) (ln cap : Nat) : (set7 w b nm pa pn pc k o s n a ln cap).heap[x]? = w.heap[x]? := by
  rw [Below.heap_setCell _ _ _ _ hx, Below.heap_setCell _ _ _ _ hx, Below.heap_setCell _ _ _ _ hx, Below.heap_setCell _ _ _ _ hx, Below.heap_setCell _ _ _ _ hx, Below.heap_setCell _ _ _ _ hx, Below.heap_setCell _ _ _ _ hx]
theorem set7_size (w : World) (b : Nat) (nm : ByteArray) (pa : Option Addr) (pn pc : Nat) (k o : Int) (s : ByteArray) (n : Int) (a : Option Addr) (ln cap : Nat) : (set7 w b nm pa pn pc k o s n a ln cap).heap.size = w.heap.size := by
  simp [World.setCell]
theorem res_fun {fn : Func} {p : Tmp} (h : fn.results = #[.cell p 62]) (tmps : Array Value) (w : World) (b : Nat) (nm : ByteArray) (pa : Option Addr) (pn pc : Nat) (k o : Int) (s : ByteArray) (n : Int) (a : Option Addr) (ln cap : Nat) (hp : tmps.getD p undef = .pointer (some ⟨b, 0, none⟩)) (hg : w.heap[b]? = some (funO nm pa pn pc k o s n a ln cap)) :
    (results fn tmps).run Tryz.prog w = .ok (funV nm pa pn pc k o s n a ln cap) w :=
  results_cell_row h tmps w b _ _ _ _ hp hg Tryz.underlying62 rfl (by kernel_rfl)

/-- A function as a value. -/
def RepFn (w : World) (F : Nat → Prop) (p : PFn) (v : Value) : Prop :=
  ∃ pa pc a cap, v = funV p.nm pa p.ps.length pc p.bd.k p.bd.o p.bd.s p.bd.n a p.bd.l.length cap ∧ p.ps.length ≤ pc ∧ RepS w F p.ps pa ∧ p.bd.l.length ≤ cap ∧ RepNL w F p.bd.l a

/-- What a call that reads a function answers. -/
def FunIs (g len : Nat) (w : World) (r : PFn × PS) (e : Ending) (w' : World) : Prop :=
  ∃ v, e = .returned v ∧ RepFn w' (Fr w.heap.size w'.heap.size) r.1 v ∧ St w' g len r.2 ∧ Gr g w w'

set_option maxHeartbeats 1000000 in
theorem fun_any (len g : Nat) (bl : Rdr) (f : Nat) (st : PS) (w : World) (hR : Rs w g len st) (hf : st.ts.length < f) (hf2 : f ≤ 100000) (hbl : ExIs g len 64 bl (funB len f st).2 w) :
    Calls Tryz.prog 47 #[.pointer (some ⟨g, 0, none⟩)] w (FunIs g len w (funP len bl f st)) := by
  have hg : g < w.heap.size := hR.st.lt
  unfold funP
  have HW := hide (fun W (x : St W g len st) => pword_any len g st ⟨#[102, 110]⟩ W x)
  have HN := hide (fun W (x : St W g len (st.word len ⟨#[102, 110]⟩)) => name_p len g _ W x)
  have HG := hide (fun W (x : St W g len (funA len st).2) => psign_any len g (funA len st).2 ⟨#[40]⟩ W x)
  have e1 := word_le st len ⟨#[102, 110]⟩
  have e2 := name_le (st.word len ⟨#[102, 110]⟩) len
  have e3 := psign_le (funA len st).2 len ⟨#[40]⟩
  have e2b : (funA len st).2.ts.length ≤ st.ts.length := Nat.le_trans e2 e1
  have HP := hide (fun W (x : St W g len ((funA len st).2.sign len ⟨#[40]⟩)) => par_any len g f _ W x (by omega) hf2)
  have HB := hide hbl
  unfold ExIs at HB
  have HR := hide hR
  clear hR hbl e1 e2 e2b e3 hf
  replace HP : Hd (∀ W, St W g len ((funA len st).2.sign len ⟨#[40]⟩) → Calls Tryz.prog 63 #[.pointer (some ⟨g, 0, none⟩)] W (Names g len W (funB len f st))) := HP
  replace HN : Hd (∀ W, St W g len (st.word len ⟨#[102, 110]⟩) → Calls Tryz.prog 61 #[.pointer (some ⟨g, 0, none⟩)] W fun e w' => e = .returned (.string (funA len st).1) ∧ St w' g len (funA len st).2 ∧ Gr g W w') := HN
  generalize funB len f st = q at *
  obtain ⟨ps, st4⟩ := q
  generalize funA len st = q at *
  obtain ⟨nm, st2⟩ := q
  simp only at HB ⊢
  generalize bl st4 = q at *
  obtain ⟨⟨k, o, s, n, l⟩, st5⟩ := q
  go_enter Tryz.func47, Tryz.ntmps47
  go_wp2_with (first
    | (go_at_call 60; refine Calls.mono (unhide HW _ ((unhide HR).st.alloc _)) ?_; rintro e w1 ⟨rfl, hs, hw⟩; have RA := hide (hw.row (Go.heap_alloc_new w _) (by omega)); have S1 := hide hs; have X1 := hide ((Gr.of (Ext.alloc _ _)).trans hw); clear hw hs)
    | (go_at_call 61; refine Calls.mono (unhide HN _ (unhide S1)) ?_; rintro e w2 ⟨rfl, hs, hw⟩; have RB := hide (hw.row (unhide RA) (by omega)); have S2 := hide hs; have X2 := hide ((unhide X1).trans hw); clear hw hs)
    | (go_at_call 62; refine Calls.mono (unhide HG _ (unhide S2)) ?_; rintro e w3 ⟨rfl, hs, hw⟩; have RC := hide (hw.row (unhide RB) (by omega)); have S3 := hide hs; have X3 := hide ((unhide X2).trans hw); have hlt3 : w.heap.size < w3.heap.size := (Array.getElem?_eq_some_iff.1 (unhide RC)).1; clear hw hs)
    | (go_at_call 63; refine Calls.mono (unhide HP _ (unhide S3)) ?_; rintro e w4 ⟨pa, pc, rfl, hpc, hps, hs, hw⟩; have RD := hide (hw.row (unhide RC) (by omega)); have PS4 := hide hps; have S4 := hide hs; have X4 := hide ((unhide X3).trans hw); have hlt4 : w3.heap.size ≤ w4.heap.size := hw.size; clear hw hs hps)
    | (go_at_call 64; refine Calls.mono (unhide HB _ (unhide X4) ((unhide HR).go (unhide X4) (unhide S4))) ?_; rintro e w5 ⟨v, rfl, hr, hs, hw⟩; rw [RepN] at hr; obtain ⟨a, cap, rfl, hcap, hl⟩ := hr; have RE := hide (hw.row (unhide RD) (by omega)); have r0 := rowC (unhide RE) 0 rfl; have r1 := rowC (unhide RE) 1 rfl; have r2 := rowC (unhide RE) 2 rfl; have r3 := rowC (unhide RE) 3 rfl; have r4 := rowC (unhide RE) 4 rfl; have r5 := rowC (unhide RE) 5 rfl; have r6 := rowC (unhide RE) 6 rfl; have rz := rowF (unhide RE); have S5 := hide hs; have L5 := hide hl; have G5 := hide hw; have X5 := hide ((unhide X4).trans hw); have hlt5 : w4.heap.size ≤ w5.heap.size := hw.size; clear hw hs hl))
  refine bodyPost_ret (res_fun rfl _ _ w.heap.size nm pa ps.length pc k o s n a l.length cap rfl (set7_row (unhide RE) _ _ _ _ _ _ _ _ _ _ _)) rfl ?_
  have hpc : ps.length ≤ pc := hpc
  have PS5 : RepS w4 (Fr w3.heap.size w4.heap.size) ps pa := unhide PS4
  have K5 : RepNL w5 (Fr w4.heap.size w5.heap.size) l a := unhide L5
  have hz := set7_size w5 w.heap.size nm pa ps.length pc k o s n a l.length cap
  have hk : ∀ b, b ≠ w.heap.size → _ := fun b hb => set7_block (w := w5) (b := w.heap.size) (x := b) hb nm pa ps.length pc k o s n a l.length cap
  refine ⟨_, rfl, ⟨pa, pc, a, cap, rfl, hpc, ?_, hcap, ?_⟩, (unhide S5).set7 hg _ _ _ _ _ _ _ _ _ _ _, (unhide X5).set7 (Nat.le_refl _) _ _ _ _ _ _ _ _ _ _ _⟩
  · exact RepS.to (fun b hb => ⟨⟨by have := hb.1; omega, by rw [hz]; have := hb.2; omega⟩, (hk b (by have := hb.1; omega)).trans ((unhide G5).block b hb.2 (by have := hb.1; omega))⟩) PS5
  · exact RepNL.to (fun b hb => ⟨⟨by have := hb.1; omega, by rw [hz]; exact hb.2⟩, hk b (by have := hb.1; omega)⟩) _ _ K5

end Go.Proofs.YteajjfhehicfgaaGreatDoor

namespace Go.Proofs.YteajjfhehicfgaaGreatDoor
open Go.RowKit

/-- The cells of a function, its slices as given. -/
abbrev fnC (p : PFn) (pa : Option Addr) (pc : Nat) (a : Option Addr) (cap : Nat) : List Value := [.string p.nm, .slice pa p.ps.length pc, .int .i64 p.bd.k, .int .i64 p.bd.o, .string p.bd.s, .int .i64 p.bd.n, .slice a p.bd.l.length cap]

/-- The cells xs hold the functions ps, one behind the other. -/
def RowF (w : World) (F : Nat → Prop) : List PFn → List Value → Prop
  | [], xs => xs = []
  | p :: ps, xs => ∃ pa pc a cap rest, xs = fnC p pa pc a cap ++ rest ∧ p.ps.length ≤ pc ∧ RepS w F p.ps pa ∧ p.bd.l.length ≤ cap ∧ RepNL w F p.bd.l a ∧ RowF w F ps rest

theorem RowF.to {w w' : World} {F F' : Nat → Prop} (h : ∀ b, F b → F' b ∧ w'.heap[b]? = w.heap[b]?) : ∀ {ps : List PFn} {xs : List Value}, RowF w F ps xs → RowF w' F' ps xs := by
  intro ps
  induction ps with
  | nil => intro xs hx; exact hx
  | cons p ps ih =>
    intro xs hx
    obtain ⟨pa, pc, a, cap, rest, e, hp, hs, hb, hl, hr⟩ := hx
    exact ⟨pa, pc, a, cap, rest, e, hp, hs.to h, hb, RepNL.to h _ _ hl, ih hr⟩

theorem RowF.snoc {w : World} {F : Nat → Prop} {p : PFn} {pa : Option Addr} {pc : Nat} {a : Option Addr} {cap : Nat} (hp : p.ps.length ≤ pc) (hs : RepS w F p.ps pa) (hb : p.bd.l.length ≤ cap) (hl : RepNL w F p.bd.l a) :
    ∀ {ps : List PFn} {xs : List Value}, RowF w F ps xs → RowF w F (ps ++ [p]) (xs ++ fnC p pa pc a cap) := by
  intro ps
  induction ps with
  | nil =>
    intro xs hx
    have : xs = [] := hx
    subst this
    exact ⟨pa, pc, a, cap, [], by simp, hp, hs, hb, hl, rfl⟩
  | cons q ps ih =>
    intro xs hx
    obtain ⟨pa', pc', a', cap', rest, e, hp', hs', hb', hl', hr⟩ := hx
    exact ⟨pa', pc', a', cap', rest ++ _, by rw [e]; simp, hp', hs', hb', hl', ih hr⟩

/-- A row of functions at an address. -/
def RepFL (w : World) (F : Nat → Prop) (ps : List PFn) (a : Option Addr) : Prop :=
  ps = [] ∨ ∃ b off xs, a = some ⟨b, off, none⟩ ∧ F b ∧ RowF w F ps xs ∧ ∀ j u, xs[j]? = some u → w.cell? ⟨b, off + j, none⟩ = some u
theorem RepFL.to {w w' : World} {F F' : Nat → Prop} (h : ∀ b, F b → F' b ∧ w'.heap[b]? = w.heap[b]?) {ps : List PFn} {a : Option Addr} (hr : RepFL w F ps a) : RepFL w' F' ps a := by
  rcases hr with hr | ⟨b, off, xs, rfl, hb, hx, hc⟩
  · exact Or.inl hr
  · exact Or.inr ⟨b, off, xs, rfl, (h b hb).1, hx.to h, fun j u hu => by rw [World.cell?_of_block (w := w) (h b hb).2]; exact hc j u hu⟩

theorem infoF : (Tryz.prog.info? 62).map (fun i => (i.zero, i.size, i.bytes)) = some (some (funV emptyB none 0 0 0 0 emptyB 0 none 0 0), 7, 104) := by kernel_rfl

/-- What holds at the head of the loop. -/
structure FunI (g len : Nat) (bl : Rdr) (f : Nat) (w wr : World) (R : List PFn × PS) (stc : PS) (k : Nat) (acc : List PFn) (ao : Option Addr) (cap : Nat) : Prop where
  eq : R = funsP len bl f k acc stc
  fuel : stc.ts.length < k
  bnd : acc.length + stc.ts.length ≤ 100001
  rs : Rs wr g len stc
  gr : Gr g w wr
  own : ∃ xs, wr.ownsRow w.heap.size 62 7 (.slice ao acc.length cap) acc.length xs ∧ RowF wr (fun b => w.heap.size ≤ b ∧ b < wr.heap.size ∧ some b ≠ (Value.slice ao acc.length cap).ownBlock) acc xs

theorem heldF_on {x base : Nat} {wr w2 : World} {acc : List PFn} {v : Value} {n : Nat} {xs : List Value} (hx : wr.ownsRow base 62 7 v n xs ∧ RowF wr (fun b => base ≤ b ∧ b < wr.heap.size ∧ some b ≠ v.ownBlock) acc xs) (k : Gr x wr w2) (hb : x < base) :
    w2.ownsRow base 62 7 v n xs ∧ RowF w2 (fun b => base ≤ b ∧ b < w2.heap.size ∧ some b ≠ v.ownBlock) acc xs :=
  ⟨own_gr hx.1 k hb, RowF.to (fun b hb => ⟨⟨hb.1, Nat.lt_of_lt_of_le hb.2.1 k.size, hb.2.2⟩, k.block b hb.2.1 (by have := hb.1; omega)⟩) hx.2⟩

theorem own_F {wr : World} {base : Nat} {acc : List PFn} {ao : Option Addr} {cap : Nat} (h : ∃ xs, wr.ownsRow base 62 7 (.slice ao acc.length cap) acc.length xs ∧ RowF wr (fun b => base ≤ b ∧ b < wr.heap.size ∧ some b ≠ (Value.slice ao acc.length cap).ownBlock) acc xs) : acc.length ≤ cap ∧ RepFL wr (Fr base wr.heap.size) acc ao := by
  obtain ⟨xs, ho, hr⟩ := h
  obtain ⟨hlen, ⟨e, h0⟩ | ⟨b, cap2, cur, e, hb, hrow, hc, _⟩⟩ := id ho
  · have : acc = [] := List.length_eq_zero_iff.1 h0
    subst this
    exact ⟨Nat.zero_le _, Or.inl rfl⟩
  · injection e with e1 e2 e3
    subst e1 e3
    exact ⟨hc, Or.inr ⟨b, 0, xs, rfl, ⟨hb, (Array.getElem?_eq_some_iff.1 hrow).1⟩, RowF.to (fun x hx => ⟨⟨hx.1, hx.2.1⟩, rfl⟩) hr, cells_own ho⟩⟩

theorem one_fun (nm : ByteArray) (pa : Option Addr) (pn pc : Nat) (k o : Int) (s : ByteArray) (n : Int) (a : Option Addr) (ln cap : Nat) : ∀ u ∈ ([.string nm, .slice pa pn pc, .int .i64 k, .int .i64 o, .string s, .int .i64 n, .slice a ln cap] : List Value), u.oneCell' = true := by
  intro u hu
  simp at hu
  rcases hu with rfl | rfl | rfl | rfl | rfl | rfl | rfl <;> rfl

theorem FunI.snoc {g len : Nat} {bl : Rdr} {f : Nat} {w wr w2 w3 : World} {R : List PFn × PS} {st0 stc st2 : PS} {j : Nat} {acc : List PFn} {ao : Option Addr} {cap g' cap' : Nat} {nm : ByteArray} {ps : List ByteArray} {pa : Option Addr} {pc : Nat} {k o n : Int} {s : ByteArray} {l : List PN} {a : Option Addr} {c : Nat} {xs : List Value} (ob : Obj)
    (hR : Rs w g len st0) (h : FunI g len bl f w wr R stc (j + 1) acc ao cap) (hq : R = funsP len bl f j (acc ++ [⟨nm, ps, ⟨k, o, s, n, l⟩⟩]) st2) (hl : st2.ts.length < stc.ts.length) (hW : Gr g wr w2) (hS : St w2 g len st2) (hpc : ps.length ≤ pc) (hps : RepS w2 (Fr wr.heap.size w2.heap.size) ps pa) (hc : l.length ≤ c) (hll : RepNL w2 (Fr wr.heap.size w2.heap.size) l a)
    (hx : (w2.alloc ob).ownsRow w.heap.size 62 7 (.slice ao acc.length cap) acc.length xs ∧ RowF (w2.alloc ob) (fun b => w.heap.size ≤ b ∧ b < (w2.alloc ob).heap.size ∧ some b ≠ (Value.slice ao acc.length cap).ownBlock) acc xs)
    (ho : w3.ownsRow w.heap.size 62 7 (.slice (some ⟨g', 0, none⟩) (acc.length + 1) cap') (acc.length + 1) (xs ++ [.string nm, .slice pa ps.length pc, .int .i64 k, .int .i64 o, .string s, .int .i64 n, .slice a l.length c]))
    (hgw : (w2.alloc ob).grownBy w3 (Value.slice ao acc.length cap).ownBlock) (hw : (Value.slice ao acc.length cap).ownBlock = some g' ∨ (w2.alloc ob).heap.size ≤ g') :
    FunI g len bl f w w3 R st2 j (acc ++ [⟨nm, ps, ⟨k, o, s, n, l⟩⟩]) (some ⟨g', 0, none⟩) cap' := by
  have hg : g < w.heap.size := hR.st.lt
  have hz : (w2.alloc ob).heap.size = w2.heap.size + 1 := size_alloc _ _
  have hln : (acc ++ [(⟨nm, ps, ⟨k, o, s, n, l⟩⟩ : PFn)]).length = acc.length + 1 := by simp
  have G3 : Gr g w w3 := Gr.append ((h.gr.trans hW).alloc ob) hx.1 (Nat.le_refl _) hgw
  have S3 : St w3 g len st2 := (hS.alloc ob).append hg hx.1 hgw
  have hsz := h.gr.size
  have hF : ∀ b, (w.heap.size ≤ b ∧ b < (w2.alloc ob).heap.size ∧ some b ≠ (Value.slice ao acc.length cap).ownBlock) →
      (w.heap.size ≤ b ∧ b < w3.heap.size ∧ some b ≠ (Value.slice (some ⟨g', 0, none⟩) (acc ++ [(⟨nm, ps, ⟨k, o, s, n, l⟩⟩ : PFn)]).length cap').ownBlock) ∧ w3.heap[b]? = (w2.alloc ob).heap[b]? := by
    intro b hb
    refine ⟨⟨hb.1, Nat.lt_of_lt_of_le hb.2.1 hgw.size, ?_⟩, hgw.block b hb.2.1 hb.2.2⟩
    intro e
    simp only [Value.ownBlock, Option.some.injEq] at e
    rcases hw with e2 | e2
    · exact hb.2.2 (by rw [e2, e])
    · have := hb.2.1; omega
  have hE : ∀ b, Fr wr.heap.size w2.heap.size b → (w.heap.size ≤ b ∧ b < (w2.alloc ob).heap.size ∧ some b ≠ (Value.slice ao acc.length cap).ownBlock) ∧ (w2.alloc ob).heap[b]? = w2.heap[b]? := by
    intro b hb
    obtain ⟨ys, hy, _⟩ := h.own
    exact ⟨⟨by have := hb.1; omega, by have := hb.2; omega, fun e => by have := (hy.lt b e.symm).2; have := hb.1; omega⟩, (Ext.alloc w2 ob).block b hb.2⟩
  exact ⟨hq, by have := h.fuel; omega, by rw [hln]; have := h.bnd; omega, hR.go G3 S3, G3, _, by rw [hln]; exact ho, RowF.snoc (p := ⟨nm, ps, ⟨k, o, s, n, l⟩⟩) hpc ((hps.to hE).to hF) hc (RepNL.to hF _ _ (RepNL.to hE _ _ hll)) (RowF.to hF hx.2)⟩

/-- What a call that reads functions answers. -/
def FunsAre (g len : Nat) (w : World) (r : List PFn × PS) (e : Ending) (w' : World) : Prop :=
  ∃ a cap, e = .returned (.slice a r.1.length cap) ∧ r.1.length ≤ cap ∧ RepFL w' (Fr w.heap.size w'.heap.size) r.1 a ∧ St w' g len r.2 ∧ Gr g w w'

set_option maxHeartbeats 1000000 in
theorem funs_any (len g : Nat) (bl : Rdr) (f : Nat) (st : PS) (w : World) (hR : Rs w g len st) (hf : st.ts.length < f) (hf2 : f ≤ 100000) (hsh : Shorter bl) (hbl : ∀ s : PS, s.ts.length ≤ st.ts.length → ExIs g len 64 bl s w) :
    Calls Tryz.prog 28 #[.pointer (some ⟨g, 0, none⟩)] w (FunsAre g len w (funsP len bl f f [] st)) := by
  have hg : g < w.heap.size := hR.st.lt
  obtain ⟨R, hRR⟩ : ∃ R, R = funsP len bl f f [] st := ⟨_, rfl⟩
  rw [← hRR]
  have HR := hide hR
  have HB := hide hbl
  have HSH := hide hsh
  have MI : Hd (FunI g len bl f w w R st f [] none 0) := ⟨hRR, hf, by simp; omega, hR, Gr.refl _ _, [], World.ownsRow_nil _ _ _ _, rfl⟩
  clear hR hbl hsh hRR
  obtain ⟨i0, hi, hz0, hz1, hz2⟩ := info_parts infoF
  have HI := hide hi
  have Z0 := hide hz0
  have Z1 := hide hz1
  have Z2 := hide hz2
  clear hi hz0 hz1 hz2
  go_enter Tryz.func28, Tryz.ntmps28
  go_wp2_with fail
  go_loopw [2] (fun t wr => ∃ (acc : List PFn) (ao : Option Addr) (cap : Nat) (stc : PS) (j : Nat), t = .slice ao acc.length cap ∧ Hd (FunI g len bl f w wr R stc j acc ao cap) ∧ stc.ts.length ≤ st.ts.length) (fun _ wr => leftN g wr)
  case atStart => exact ⟨[], none, 0, st, f, rfl, MI, Nat.le_refl _⟩
  case round =>
    clear MI
    obtain ⟨acc, ao, cap, stc, j, rfl, hM, hle⟩ := hrel
    have HEn := hide (ended_any len g stc wr (unhide hM).rs.st)
    have hfu := (unhide hM).fuel
    obtain ⟨j, rfl⟩ : ∃ i, j = i + 1 := ⟨j - 1, by omega⟩
    cases hz : ((stc.ts.length : Int) == 0)
    · rw [hz] at HEn
      have hne : stc.ts ≠ [] := fun e => by rw [e] at hz; simp at hz
      have hR2 : R = funsP len bl f j (acc ++ [(funP len bl f stc).1]) (funP len bl f stc).2 := by rw [(unhide hM).eq, funsP, hz]; rfl
      have HR2 := hide hR2
      have hlB := funB_lt (len := len) (f := f) hne
      have HX := hide (fun_any len g bl f stc wr (unhide hM).rs (by omega) hf2 (fun W x h => unhide HB (funB len f stc).2 (by omega) W ((unhide hM).gr.trans x) h))
      have hl1 := fun_lt (len := len) (f := f) (unhide HSH) hne
      have hm0 : leftN g wr = stc.ts.length := left_st (unhide hM).rs.st
      have hbd := (unhide hM).bnd
      clear hR2 hz hne hlB
      generalize funP len bl f stc = q at *
      obtain ⟨⟨nm, ps, ⟨k, o, s, n, l⟩⟩, st4⟩ := q
      obtain ⟨xs, hx⟩ := (unhide hM).own
      have HXS := hide (fun w2 (x : Gr g wr w2) => heldF_on hx x hg)
      clear hx
      generalize hA : acc.length = A at *
      go_wp2_with (first
        | (go_at_call 46; refine Calls.mono (unhide HEn) ?_; rintro e w4 ⟨rfl, hw⟩; obtain rfl := hw.symm)
        | (go_at_call 47; refine Calls.mono (unhide HX) ?_; rintro e w5 ⟨v, rfl, ⟨pa, pc, a, c, rfl, hpc, hps, hcap, hll⟩, hs, hw⟩; have S5 := hide hs; have X5 := hide hw; have P5 := hide hps; have L5 := hide hll; clear hw hs hps hll)
        | (at_builtin; refine wpList_append_where rfl (.tmp 6) (.tmp 9) 24 rfl w.heap.size 62 i0 (funV emptyB none 0 0 0 0 emptyB 0 none 0 0) 7 104 Tryz.underlying24 (unhide HI) (unhide Z0) (unhide Z1) (unhide Z2) rfl (by decide) ao A cap xs rfl (unhide HXS _ ((unhide X5).alloc _)).1 ⟨w5.heap.size, 0, none⟩ 1 1 [.string nm, .slice pa ps.length pc, .int .i64 k, .int .i64 o, .string s, .int .i64 n, .slice a l.length c] rfl (by decide) rfl (cells_new w5 _ _) (one_fun _ _ _ _ _ _ _ _ _ _ _) ?c1 ?c2 ?c3 ?_))
      case c1 => unfold maxLen; omega
      case c2 => omega
      case c3 => have := (unhide hM).gr.size; have := (unhide X5).size; simp; omega
      intro g2 cap6 w6 ho6 hg6 hw6
      subst hA
      have MN : Hd (FunI g len bl f w w6 R st4 j (acc ++ [⟨nm, ps, ⟨k, o, s, n, l⟩⟩]) (some ⟨g2, 0, none⟩) cap6) := FunI.snoc _ (unhide HR) (unhide hM) (unhide HR2) hl1 (unhide X5) (unhide S5) hpc (unhide P5) hcap (unhide L5) (unhide HXS _ ((unhide X5).alloc _)) ho6 hg6 (by rw [size_alloc]; exact hw6)
      have hm1 : leftN g w6 = st4.ts.length := left_st (unhide MN).rs.st
      have hln : (acc ++ [(⟨nm, ps, ⟨k, o, s, n, l⟩⟩ : PFn)]).length = acc.length + 1 := by simp
      have hl1 : st4.ts.length < stc.ts.length := hl1
      clear ho6 hg6 hw6
      go_wp2_with fail
      go_roundw
      case rel => exact ⟨_, _, _, st4, j, by rw [hln], MN, by omega⟩
      case measure => rw [hm0, hm1]; omega
    · rw [hz] at HEn
      have hR2 : R = (acc, stc) := by rw [(unhide hM).eq, funsP, hz]; rfl
      subst hR2
      clear hz
      go_wp2_with (go_at_call 46; refine Calls.mono (unhide HEn) ?_; rintro e w4 ⟨rfl, hw⟩; obtain rfl := hw.symm)
      go_ret
      obtain ⟨d1, d2⟩ := own_F (unhide hM).own
      exact ⟨ao, cap, rfl, d1, d2, (unhide hM).rs.st, (unhide hM).gr⟩

end Go.Proofs.YteajjfhehicfgaaGreatDoor

namespace Go.Proofs.YteajjfhehicfgaaGreatDoor
open Go.RowKit

theorem lexF_len : ∀ (f : Nat) (s : ByteArray) (o : Nat), (lexF f s o).1.length ≤ f
  | 0, s, o => by simp [lexF]
  | f + 1, s, o => by
    rw [lexF]
    split
    · simp
    · split
      · simp
      · have := lexF_len f s
        simp only [List.length_cons]
        rename_i m _
        have h := this m
        omega

/-- Where a reader stands at a text's begin. -/
def begP (s : ByteArray) : PS := if 4000 < s.size then ⟨[], 0, 0, 2⟩ else match (lexF (s.size + 1) s 0).2 with
  | some b => ⟨[], 0, (b : Nat), 10⟩
  | none => ⟨(lexF (s.size + 1) s 0).1, 0, 0, 0⟩
theorem begP_len (s : ByteArray) : (begP s).ts.length < 4002 := by
  unfold begP
  split
  · simp
  · have := lexF_len (s.size + 1) s 0
    split
    · simp
    · show (lexF (s.size + 1) s 0).1.length < 4002
      omega

theorem begP_long {s : ByteArray} (h : 4000 < s.size) : begP s = ⟨[], 0, 0, 2⟩ := by unfold begP; rw [if_pos h]
theorem begP_bad {s : ByteArray} (h : s.size ≤ 4000) {b : Nat} (hb : (lexF (s.size + 1) s 0).2 = some b) : begP s = ⟨[], 0, (b : Nat), 10⟩ := by unfold begP; rw [if_neg (by omega), hb]
theorem begP_good {s : ByteArray} (h : s.size ≤ 4000) (hb : (lexF (s.size + 1) s 0).2 = none) : begP s = ⟨(lexF (s.size + 1) s 0).1, 0, 0, 0⟩ := by unfold begP; rw [if_neg (by omega), hb]

theorem Sl.own {w1 : World} {base g : Nat} {v : Value} {ts : List Tk} (hown : w1.ownsRow base 126 4 v ts.length (ts.flatMap tkC)) (hg : w1.heap.size ≤ g) (ob : Obj) : Sl (w1.alloc ob) g v ts := by
  obtain ⟨hlen, ⟨e, h0⟩ | ⟨b, cap, cur, rfl, hb, hrow, hc, hcm, _⟩⟩ := id hown
  · have : ts = [] := List.length_eq_zero_iff.1 h0
    subst this
    rw [e]
    exact slNil _ _
  · refine ⟨_, cap, rfl, hc, by unfold maxLen at hcm; omega, Or.inr ⟨b, 0, rfl, Nat.lt_of_lt_of_le (Array.getElem?_eq_some_iff.1 hrow).1 hg, fun j u hu => (Ext.alloc w1 ob).cell (cells_own hown j u hu)⟩⟩

theorem toks_beg (s : ByteArray) (w : World) (he : Er w) (hmax : s.size ≤ 140737488355328) :
    Calls Tryz.prog 45 #[.string s] w fun e w' => ∃ a n cap, e = .returned (.tuple #[.slice a n cap, .int .i64 (begP s).pl, .int .i64 (begP s).e]) ∧ (begP s).op = 0 ∧ (∀ ob, Sl (w'.alloc ob) w'.heap.size (.slice a n cap) (begP s).ts) ∧ Ext w w' := by
  refine (tokens_any s w he hmax).mono ?_
  rintro e w1 (⟨hlong, rfl, hx⟩ | ⟨hlong, b, hb, rfl, hx⟩ | ⟨hlong, hb, v, rfl, hown, hx⟩)
  · rw [begP_long hlong]
    exact ⟨none, 0, 0, rfl, rfl, fun _ => slNil _ _, hx⟩
  · rw [begP_bad hlong hb]
    exact ⟨none, 0, 0, rfl, rfl, fun _ => slNil _ _, hx⟩
  · rw [begP_good hlong hb]
    have hs := fun ob => Sl.own hown (Nat.le_refl _) ob
    obtain ⟨hlen, ⟨e, h0⟩ | ⟨b, cap, cur, e, _⟩⟩ := id hown
    · subst e
      exact ⟨none, 0, 0, rfl, rfl, hs, hx⟩
    · subst e
      exact ⟨_, _, cap, rfl, rfl, hs, hx⟩

set_option maxHeartbeats 1000000 in
theorem pbegin_any (s : ByteArray) (w : World) (he : Er w) (hmax : s.size ≤ 140737488355328) :
    Calls Tryz.prog 27 #[.string s] w fun e w' => ∃ g, e = .returned (.pointer (some ⟨g, 0, none⟩)) ∧ w.heap.size ≤ g ∧ St w' g s.size (begP s) ∧ Ext w w' := by
  have HT := hide (toks_beg s w he hmax)
  generalize begP s = st at *
  obtain ⟨ts, op, pl, er⟩ := st
  go_enter Tryz.func27, Tryz.ntmps27
  go_wp2_with (go_at_call 45; refine Calls.mono (unhide HT) ?_; rintro e w1 ⟨a, n, cap, rfl, hop, hs, hx⟩; have HO := hide hop; have HS := hide hs; have X := hide hx; clear hop hs hx)
  go_ret
  have hop : op = 0 := unhide HO
  subst hop
  exact ⟨_, rfl, (unhide X).le, ⟨⟨_, Go.heap_alloc_new w1 _, unhide HS _⟩⟩, (unhide X).trans (Ext.alloc _ _)⟩

/-- Too many functions, or parameters of one. -/
def tooP (fs : List PFn) : Bool := decide (16 < fs.length) || fs.any (fun p => decide (8 < p.ps.length))

theorem RowF.at {w : World} {F : Nat → Prop} : ∀ {ps : List PFn} {xs : List Value} {j : Nat} {p : PFn}, RowF w F ps xs → ps[j]? = some p → ∃ pa pc a cap, p.ps.length ≤ pc ∧ p.bd.l.length ≤ cap ∧ RepS w F p.ps pa ∧ RepNL w F p.bd.l a ∧ ∀ i u, (fnC p pa pc a cap)[i]? = some u → xs[j * 7 + i]? = some u := by
  intro ps
  induction ps with
  | nil => intro xs j p _ h; simp at h
  | cons q ps ih =>
    intro xs j p hr h
    obtain ⟨pa, pc, a, cap, rest, rfl, hp, hs, hb, hl, hr⟩ := hr
    cases j with
    | zero =>
      obtain rfl : q = p := by simpa using h
      refine ⟨pa, pc, a, cap, hp, hb, hs, hl, fun i u hu => ?_⟩
      rw [Nat.zero_mul, Nat.zero_add, List.getElem?_append_left (List.getElem?_eq_some_iff.1 hu).1]
      exact hu
    | succ j =>
      obtain ⟨pa', pc', a', cap', hp', hb', hs', hl', hc⟩ := ih hr (by simpa using h)
      refine ⟨pa', pc', a', cap', hp', hb', hs', hl', fun i u hu => ?_⟩
      rw [List.getElem?_append_right (by show 7 ≤ _; omega)]
      have := hc i u hu
      rw [show (j + 1) * 7 + i - (fnC q pa pc a cap).length = j * 7 + i by show (j + 1) * 7 + i - 7 = _; omega]
      exact this

set_option maxHeartbeats 1000000 in
theorem tooF_any (nm : ByteArray) (pa : Option Addr) (pn pc : Nat) (k o : Int) (s : ByteArray) (n : Int) (a : Option Addr) (ln cap : Nat) (W : World) :
    Calls Tryz.prog 49 #[funV nm pa pn pc k o s n a ln cap] W fun e w' => e = .returned (.bool (decide (8 < pn))) ∧ Ext W w' := by
  go_enter Tryz.func49, Tryz.ntmps49
  go_wp2_with fail
  go_ret
  refine ⟨?_, Ext.alloc _ _⟩
  congr 2
  simp
  omega

theorem callTooF (v : Value) (W : World) : (callFunc 49 #[v]).run Tryz.prog W = .ok (.enter 49 #[v]) W := by kernel_rfl

set_option maxHeartbeats 1000000 in
theorem idx_fun (fs : List PFn) (a : Option Addr) (cap : Nat) (F : Nat → Prop) (w : World) (hr : RepFL w F fs a) (hcap : fs.length ≤ cap) (hf2 : fs.length ≤ 100001) :
    Calls Tryz.prog 65 #[.slice a fs.length cap, fnV 49] w fun e w' => (∃ r : Int, e = .returned (.int .i64 r) ∧ (decide (0 ≤ r) = fs.any (fun p => decide (8 < p.ps.length)))) ∧ Ext w w' := by
  have HR := hide hr
  have HC := hide callTooF
  clear hr
  go_enter Tryz.func65, Tryz.ntmps65
  go_wp2_with fail
  go_loopw [8] (fun i wr => ∃ j : Nat, i = .int .i64 j ∧ j ≤ fs.length ∧ Hd ((fs.take j).any (fun p => decide (8 < p.ps.length)) = false) ∧ Hd (Ext w wr)) (fun i _ => fs.length - (intOf i).toNat)
  case atStart => exact ⟨0, rfl, by omega, by simp [Hd], Ext.refl _⟩
  case round =>
    obtain ⟨j, rfl, hj, hN, hE⟩ := hrel
    by_cases hlt : j < fs.length
    · obtain ⟨p, hp⟩ : ∃ p, fs[j]? = some p := ⟨_, List.getElem?_eq_getElem hlt⟩
      rcases unhide HR with hnil | ⟨b, off, xs, rfl, hb, hx, hc⟩
      · rw [hnil] at hlt; simp at hlt
      obtain ⟨pa, pc, a2, cap2, h1, h2, _, _, hat⟩ := hx.at hp
      have p0 := (unhide hE).cell (hc _ _ (hat 0 _ rfl))
      have p1 := (unhide hE).cell (hc _ _ (hat 1 _ rfl))
      have p2 := (unhide hE).cell (hc _ _ (hat 2 _ rfl))
      have p3 := (unhide hE).cell (hc _ _ (hat 3 _ rfl))
      have p4 := (unhide hE).cell (hc _ _ (hat 4 _ rfl))
      have p5 := (unhide hE).cell (hc _ _ (hat 5 _ rfl))
      have p6 := (unhide hE).cell (hc _ _ (hat 6 _ rfl))
      simp only [← Nat.add_assoc, Nat.add_zero] at p0 p1 p2 p3 p4 p5 p6
      have hT := tooF_any p.nm pa p.ps.length pc p.bd.k p.bd.o p.bd.s p.bd.n a2 p.bd.l.length cap2
      have HT := hide hT
      clear hT hx hc hat hb
      have htk : fs.take (j + 1) = fs.take j ++ [p] := by
        rw [List.take_succ_eq_append_getElem hlt, (List.getElem?_eq_some_iff.1 hp).2]
      cases hd : decide (8 < p.ps.length)
      · rw [hd] at HT
        have HN2 : Hd ((fs.take (j + 1)).any (fun p => decide (8 < p.ps.length)) = false) := by
          unfold Hd
          rw [htk, List.any_append, unhide hN]
          simpa using hd
        clear htk hd hp
        go_wp2_with (go_at_call 49; refine Calls.mono (unhide HT _) ?_; rintro e w1 ⟨rfl, hw⟩; have X := hide hw; clear hw)
        go_roundw
        case rel => exact ⟨j + 1, by go_num, by omega, HN2, (unhide hE).trans (unhide X)⟩
        case measure => simp [intOf]; omega
      · rw [hd] at HT
        have HA : Hd (fs.any (fun p => decide (8 < p.ps.length)) = true) := List.any_eq_true.2 ⟨p, List.mem_of_getElem? hp, hd⟩
        clear htk hd hp
        go_wp2_with (go_at_call 49; refine Calls.mono (unhide HT _) ?_; rintro e w1 ⟨rfl, hw⟩; have X := hide hw; clear hw)
        go_ret
        exact ⟨⟨_, rfl, by rw [unhide HA]; simp⟩, (unhide hE).trans (unhide X)⟩
    · have hj2 : j = fs.length := by omega
      have HA : Hd (fs.any (fun p => decide (8 < p.ps.length)) = false) := by
        have h := unhide hN
        rw [hj2, List.take_length] at h
        exact h
      clear hj2
      go_wp2_with fail
      go_ret
      exact ⟨⟨_, rfl, by rw [unhide HA]; decide⟩, unhide hE⟩

set_option maxHeartbeats 1000000 in
theorem too_any (fs : List PFn) (a : Option Addr) (cap : Nat) (F : Nat → Prop) (w : World) (hr : RepFL w F fs a) (hcap : fs.length ≤ cap) (hf2 : fs.length ≤ 100001) :
    Calls Tryz.prog 29 #[.slice a fs.length cap] w fun e w' => e = .returned (.bool (tooP fs)) ∧ Ext w w' := by
  have HI := hide (idx_fun fs a cap F w hr hcap hf2)
  have HC : Hd (Calls Tryz.prog 48 #[.slice a fs.length cap, fnV 49] w fun e w' => e = .returned (.bool (fs.any (fun p => decide (8 < p.ps.length)))) ∧ Ext w w') := by
    unfold Hd
    go_enter Tryz.func48, Tryz.ntmps48
    go_wp2_with (go_at_call 65; refine Calls.mono (unhide HI) ?_; rintro e w1 ⟨⟨r, rfl, hq⟩, hw⟩; have X := hide hw; have Q := hide hq; clear hw hq)
    go_ret
    exact ⟨by rw [← unhide Q]; rfl, unhide X⟩
  clear HI hr
  unfold tooP
  cases h16 : decide (16 < fs.length)
  · have h : ¬ 16 < fs.length := by simpa using h16
    have h2 : decide ((16 : Int) < (fs.length : Int)) = false := by simp; omega
    clear h16
    go_enter Tryz.func29, Tryz.ntmps29
    go_wp2_with (go_at_call 48; refine Calls.mono (unhide HC) ?_; rintro e w1 ⟨rfl, hw⟩; have X := hide hw; clear hw)
    go_ret
    exact ⟨by simp, unhide X⟩
  · have h : 16 < fs.length := by simpa using h16
    have h2 : decide ((16 : Int) < (fs.length : Int)) = true := by simp; omega
    clear h16
    go_enter Tryz.func29, Tryz.ntmps29
    go_wp2_with fail
    go_ret
    exact ⟨by simp, Ext.refl _⟩

/-- The functions that a text tells, and where its reader stands behind them. -/
def rdP (s : ByteArray) (f : Nat) : List PFn × PS := funsP s.size (stsP s.size f f).2.1 f f [] (begP s)

/-- What Program answers, by what was read. -/
def ProgOf (q : List PFn × PS) (w : World) (e : Ending) (w' : World) : Prop :=
  Ext w w' ∧ ((q.2.e ≠ 0 ∧ e = .returned (.tuple #[.slice none 0 0, .int .i64 q.2.pl, .int .i64 q.2.e])) ∨
  (q.2.e = 0 ∧ tooP q.1 = true ∧ e = .returned (.tuple #[.slice none 0 0, .int .i64 0, .int .i64 65])) ∨
  (q.2.e = 0 ∧ tooP q.1 = false ∧ ∃ a cap, e = .returned (.tuple #[.slice a q.1.length cap, .int .i64 0, .int .i64 0]) ∧ q.1.length ≤ cap ∧ RepFL w' (Fr w.heap.size w'.heap.size) q.1 a))

theorem funs_len (len : Nat) (bl : Rdr) (f : Nat) (hb : Shorter bl) : ∀ (j : Nat) (acc : List PFn) (st : PS), (funsP len bl f j acc st).1.length ≤ acc.length + st.ts.length
  | 0, acc, st => by simp [funsP]
  | j + 1, acc, st => by
    rw [funsP]
    split
    · simp
    · rename_i hz
      have hne : st.ts ≠ [] := fun e => by rw [e] at hz; simp at hz
      have h1 := funs_len len bl f hb j (acc ++ [(funP len bl f st).1]) (funP len bl f st).2
      have h2 := fun_lt (len := len) (f := f) hb hne
      simp at h1
      omega

theorem opx_lt {w : World} (h : Opx w) : 4 < w.heap.size :=
  World.block_lt_of_cell? w ⟨4, 0, none⟩ (h 0 _ rfl)

set_option maxHeartbeats 1000000 in
theorem program_any (s : ByteArray) (f : Nat) (w : World) (he : Er w) (hO : Opx w) (hmax : s.size ≤ 140737488355328) (hf : (begP s).ts.length < f) (hf2 : f ≤ 100000) :
    Calls Tryz.prog 16 #[.string s] w (ProgOf (rdP s f) w) := by
  have HBg := hide (pbegin_any s w he hmax)
  have hlen := funs_len s.size (stsP s.size f f).2.1 f (blkIs_le s.size f) f [] (begP s)
  have HF := hide (fun gg W (x : Rs W gg s.size (begP s)) => funs_any s.size gg (stsP s.size f f).2.1 f (begP s) W x hf hf2 (blkIs_le s.size f) (fun p hp => (blkIs gg s.size f hf2).ex p W (by omega)))
  have hp := opx_lt hO
  have HO := hide hO
  replace HF : Hd (∀ gg W, Rs W gg s.size (begP s) → Calls Tryz.prog 28 #[.pointer (some ⟨gg, 0, none⟩)] W (FunsAre gg s.size W (rdP s f))) := HF
  replace hlen : (rdP s f).1.length ≤ 100001 := by
    have : (rdP s f).1.length ≤ 0 + (begP s).ts.length := hlen
    omega
  generalize rdP s f = q at *
  generalize begP s = st0 at *
  obtain ⟨fs, ⟨ts, op, pl, er⟩⟩ := q
  clear hO hf he
  by_cases h0 : er = 0
  · subst h0
    cases ht : tooP fs
    · go_enter Tryz.func16, Tryz.ntmps16
      go_wp2_with (first
        | (go_at_call 27; refine Calls.mono (unhide HBg) ?_; rintro e w1 ⟨gg, rfl, hgg, hs, hw⟩; have S1 := hide hs; have X1 := hide hw; have O1 := hide (Rs.mk hs ((unhide HO).ext hw) (by omega)); clear hw hs)
        | (go_at_call 28; refine Calls.mono (unhide HF gg _ (unhide O1)) ?_; rintro e w2 ⟨a, cap, rfl, hcap, hfl, hs, hw⟩; have HTo := hide (too_any fs a cap _ w2 hfl hcap hlen); have c3 : w2.cell? ⟨gg, 3, none⟩ = some (.int .i64 pl) := (by obtain ⟨T, h1, _⟩ := hs.ex; exact rowC h1 3 rfl); have c4 : w2.cell? ⟨gg, 4, none⟩ = some (.int .i64 0) := (by obtain ⟨T, h1, _⟩ := hs.ex; exact rowC h1 4 rfl); have FL := hide hfl; have X2 := hide ((unhide X1).gr hw hgg); have hz2 : w1.heap.size ≤ w2.heap.size := hw.size; have hz1 : w.heap.size ≤ w1.heap.size := (unhide X1).le; clear hw hs hfl)
        | (go_at_call 29; refine Calls.mono (unhide HTo) ?_; rintro e w3 ⟨he, hw⟩; rw [ht] at he; obtain rfl := he; have X3 := hide hw; clear hw))
      exact bodyPost_ret (v := .tuple #[.slice a fs.length cap, .int .i64 0, .int .i64 0]) (by simp [results, Tryz.results16]) rfl ⟨(unhide X2).trans (unhide X3), Or.inr (Or.inr ⟨rfl, ht, a, cap, rfl, hcap, RepFL.to (fun b hb => ⟨⟨by have := hb.1; omega, Nat.lt_of_lt_of_le hb.2 (unhide X3).le⟩, (unhide X3).block b hb.2⟩) (unhide FL)⟩)⟩
    · go_enter Tryz.func16, Tryz.ntmps16
      go_wp2_with (first
        | (go_at_call 27; refine Calls.mono (unhide HBg) ?_; rintro e w1 ⟨gg, rfl, hgg, hs, hw⟩; have S1 := hide hs; have X1 := hide hw; have O1 := hide (Rs.mk hs ((unhide HO).ext hw) (by omega)); clear hw hs)
        | (go_at_call 28; refine Calls.mono (unhide HF gg _ (unhide O1)) ?_; rintro e w2 ⟨a, cap, rfl, hcap, hfl, hs, hw⟩; have HTo := hide (too_any fs a cap _ w2 hfl hcap hlen); have c3 : w2.cell? ⟨gg, 3, none⟩ = some (.int .i64 pl) := (by obtain ⟨T, h1, _⟩ := hs.ex; exact rowC h1 3 rfl); have c4 : w2.cell? ⟨gg, 4, none⟩ = some (.int .i64 0) := (by obtain ⟨T, h1, _⟩ := hs.ex; exact rowC h1 4 rfl); have FL := hide hfl; have X2 := hide ((unhide X1).gr hw hgg); have hz2 : w1.heap.size ≤ w2.heap.size := hw.size; have hz1 : w.heap.size ≤ w1.heap.size := (unhide X1).le; clear hw hs hfl)
        | (go_at_call 29; refine Calls.mono (unhide HTo) ?_; rintro e w3 ⟨he, hw⟩; rw [ht] at he; obtain rfl := he; have X3 := hide hw; clear hw))
      exact bodyPost_ret (v := .tuple #[.slice none 0 0, .int .i64 0, .int .i64 65]) (by simp [results, Tryz.results16]) rfl ⟨(unhide X2).trans (unhide X3), Or.inr (Or.inl ⟨rfl, ht, rfl⟩)⟩
  · have h1 : (er == 0) = false := by simpa using h0
    have h2 : (er != 0) = true := by simp [h0]
    have H0 := hide h0
    clear h0
    go_enter Tryz.func16, Tryz.ntmps16
    go_wp2_with (first
      | (go_at_call 27; refine Calls.mono (unhide HBg) ?_; rintro e w1 ⟨gg, rfl, hgg, hs, hw⟩; have S1 := hide hs; have X1 := hide hw; have O1 := hide (Rs.mk hs ((unhide HO).ext hw) (by omega)); clear hw hs)
      | (go_at_call 28; refine Calls.mono (unhide HF gg _ (unhide O1)) ?_; rintro e w2 ⟨a, cap, rfl, hcap, hfl, hs, hw⟩; have HTo := hide (too_any fs a cap _ w2 hfl hcap hlen); have c3 : w2.cell? ⟨gg, 3, none⟩ = some (.int .i64 pl) := (by obtain ⟨T, h1, _⟩ := hs.ex; exact rowC h1 3 rfl); have c4 : w2.cell? ⟨gg, 4, none⟩ = some (.int .i64 er) := (by obtain ⟨T, h1, _⟩ := hs.ex; exact rowC h1 4 rfl); have FL := hide hfl; have X2 := hide ((unhide X1).gr hw hgg); have hz2 : w1.heap.size ≤ w2.heap.size := hw.size; have hz1 : w.heap.size ≤ w1.heap.size := (unhide X1).le; clear hw hs hfl))
    go_region
    go_wp2_with fail
    exact bodyPost_ret (v := .tuple #[.slice none 0 0, .int .i64 pl, .int .i64 er]) (by simp [results, Tryz.results16]) rfl ⟨(unhide X2).trans (Ext.drew (Ext.refl _)), Or.inl ⟨unhide H0, rfl⟩⟩

end Go.Proofs.YteajjfhehicfgaaGreatDoor

namespace Go.Proofs.YteajjfhehicfgaaGreatDoor
open Go.RowKit Go.Maps

/-- What is known while a function is gone through: the names that are visible, their order, the blocks that are open, loops, locals, slots, calls, the first error, how many steps were done; how many names were ever made visible. -/
structure WK where
  lm : List (ByteArray × Int)
  od : List ByteArray
  bk : List Int
  lp : Int
  lc : Int
  sl : List Int
  cl : List Int
  e : Int
  sp : Int
  ct : Nat

def lkp (lm : List (ByteArray × Int)) (s : ByteArray) : Option Int := (lm.find? (fun p => p.1.data.toList == s.data.toList)).map (·.2)
def WK.fail (st : WK) (c : Int) : WK := if st.e = 0 then { st with e := c } else st
def WK.leave (st : WK) : WK := if st.lp = 0 then st.fail 11 else st
def WK.stepTo (st : WK) (n : Int) : WK := if 4194304 < n then WK.fail { st with sp := n } 65 else { st with sp := n }
def WK.step (st : WK) (len : Nat) : WK := st.stepTo (wrap64 (st.sp + (1 + (len : Int) / 4000)))
def WK.use (st : WK) (s : ByteArray) : WK := match lkp st.lm s with
  | none => st.fail 11
  | some v => { st with sl := st.sl ++ [v] }
def WK.put (st : WK) (s : ByteArray) (v : Int) : WK := { st with lm := (s, v) :: st.lm, od := st.od ++ [s], ct := st.ct + 1 }
def WK.up (st : WK) : WK := { st with lc := wrap64 (st.lc + 1) }
def WK.declare (st : WK) (s : ByteArray) : WK := if (lkp st.lm s).isSome then (st.fail 11).up else (st.put s st.lc).up
def WK.letW (st : WK) (s : ByteArray) : WK := WK.declare { st with sl := st.sl ++ [st.lc] } s
def WK.opn (st : WK) : WK := { st with bk := st.bk ++ [(st.od.length : Int)] }
def drp (lm : List (ByteArray × Int)) (s : ByteArray) : List (ByteArray × Int) := lm.filter (fun p => !(p.1.data.toList == s.data.toList))
def WK.shut (st : WK) (b : Nat) : WK := { st with lm := (st.od.drop b).foldl drp st.lm, od := st.od.take b, bk := st.bk.dropLast }
def WK.close (st : WK) : Option WK := match st.bk.getLast? with
  | none => none
  | some b => if 0 ≤ b ∧ b.toNat ≤ st.od.length then some (st.shut b.toNat) else none

def biL : List (ByteArray × Int × Int) := [(⟨#[112, 117, 115, 104]⟩, 13, 2), (⟨#[99, 120]⟩, 14, 2), (⟨#[108, 101, 110]⟩, 17, 1), (⟨#[114, 101]⟩, 18, 1), (⟨#[105, 109]⟩, 19, 1), (⟨#[99, 111, 110, 106]⟩, 20, 1)]
/-- What is built in by that name: its op, how many operands it takes. -/
def biP (s : ByteArray) : Option (Int × Int) := (biL.find? (fun p => p.1.data.toList == s.data.toList)).map (·.2)
def calP (nm : List (ByteArray × Int)) (fs : List PFn) (s : ByteArray) : Option (Int × Int) := match biP s with
  | some (op, n) => some (wrap64 (op + 1000), n)
  | none => match lkp nm s with
    | none => none
    | some i => some (i, (((fs[i.toNat]?).map (·.ps.length)).getD 0 : Nat))
def WK.call (st : WK) (nm : List (ByteArray × Int)) (fs : List PFn) (s : ByteArray) (k : Nat) : WK := match calP nm fs s with
  | none => st.fail 11
  | some (i, n) => if n = k then { st with cl := st.cl ++ [i] } else st.fail 12

def WK.bgn (st : WK) (p : PN) : WK :=
  if p.k = 2 ∨ p.k = 19 then (st.step p.s.size).use p.s else if p.k = 10 then (st.step p.s.size).opn else
  if p.k = 4 then { st.step p.s.size with lp := wrap64 ((st.step p.s.size).lp + 1) } else if p.k = 5 ∨ p.k = 6 then (st.step p.s.size).leave else st.step p.s.size
def WK.fin (st : WK) (nm : List (ByteArray × Int)) (fs : List PFn) (p : PN) : Option WK :=
  if p.k = 1 then some (st.letW p.s) else if p.k = 10 then st.close else if p.k = 4 then some { st with lp := wrap64 (st.lp - 1) } else
  if p.k = 20 then some (st.call nm fs p.s p.l.length) else some st

/-- A text that is no longer than any source. -/
def small (s : ByteArray) : Bool := decide (s.size ≤ 1000000)
/-- Through a tree, what is open as a list, the last first; none: it did not come to its end so soon. -/
def thr (nm : List (ByteArray × Int)) (fs : List PFn) : Nat → List (PN × Nat) → WK → Option WK
  | 0, _, _ => none
  | f + 1, [], st => some st
  | f + 1, (p, d) :: rest, st => if st.e ≠ 0 then some st else
    if d = p.l.length then (match st.fin nm fs p with
      | none => none
      | some st2 => thr nm fs f rest st2) else
    match p.l[d]? with
    | none => none
    | some q => if small q.s then thr nm fs f ((q, 0) :: (p, d + 1) :: rest) (st.bgn q) else none
def prm : List ByteArray → WK → WK
  | [], st => st
  | s :: r, st => if st.e ≠ 0 then st else prm r (st.declare s)
def wkZ (sp : Int) : WK := ⟨[], [], [], 0, 0, [], [], 0, sp, 0⟩
/-- A function: what is known behind it. -/
def fnW (nm : List (ByteArray × Int)) (fs : List PFn) (f : Nat) (sp : Int) (p : PFn) : Option WK := if small p.bd.s && p.ps.all small then (match thr nm fs f [(p.bd, 0)] ((prm p.ps (wkZ sp)).bgn p.bd) with
  | none => none
  | some st => some (if 64 < st.lc then st.fail 65 else st)) else none
/-- The functions' numbers; none: two have one name, or one has a name that is built in. -/
def nums : List PFn → Nat → List (ByteArray × Int) → Option (List (ByteArray × Int))
  | [], _, nm => some nm
  | p :: r, i, nm => if (lkp nm p.nm).isSome || (biP p.nm).isSome then none else nums r (i + 1) ((p.nm, (i : Int)) :: nm)
/-- What the names of a function mean. -/
structure PSc where
  lc : Int
  sl : List Int
  cl : List Int
/-- Of each function; none: it did not come to its end so soon. -/
def chk (nm : List (ByteArray × Int)) (all : List PFn) (f : Nat) : List PFn → Int → List PSc → Option (List PSc × Int)
  | [], _, acc => some (acc, 0)
  | p :: r, sp, acc => match fnW nm all f sp p with
    | none => none
    | some st => if st.e ≠ 0 then some ([], st.e) else chk nm all f r st.sp (acc ++ [⟨st.lc, st.sl, st.cl⟩])
def mainP (nm : List (ByteArray × Int)) (fs : List PFn) : Int := match lkp nm ⟨#[109, 97, 105, 110]⟩ with
  | none => 11
  | some i => if 0 < ((fs[i.toNat]?).map (·.ps.length)).getD 0 then 12 else 0
/-- Check's answer, names being no longer than any source. -/
def checkQ (fs : List PFn) (f : Nat) : Option (List PSc × Int) := match nums fs 0 [] with
  | none => some ([], 11)
  | some nm => match chk nm fs f fs 0 [] with
    | none => none
    | some (l, e) => if e ≠ 0 then some ([], e) else if mainP nm fs ≠ 0 then some ([], mainP nm fs) else some (l, 0)
/-- Check's answer. -/
def checkP (fs : List PFn) (f : Nat) : Option (List PSc × Int) := if fs.all (fun p => small p.nm) then checkQ fs f else none

end Go.Proofs.YteajjfhehicfgaaGreatDoor
