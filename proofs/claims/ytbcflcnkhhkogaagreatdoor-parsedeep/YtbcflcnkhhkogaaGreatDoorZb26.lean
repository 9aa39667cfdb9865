/- A function. -/
import Derived.Test.YtbcflcnkhhkogaaGreatDoorZb25
set_option linter.unusedSimpArgs false
set_option linter.unusedVariables false
set_option maxRecDepth 10000

namespace Go.Proofs.YtbcflcnkhhkogaaGreatDoor
open Go.RowKit

abbrev funV (nm : ByteArray) (pa : Option Addr) (pn pc : Nat) (k o : Int) (s : ByteArray) (n : Int) (a : Option Addr) (ln cap : Nat) : Value := .agg #[.string nm, .slice pa pn pc, .int .i64 k, .int .i64 o, .string s, .int .i64 n, .slice a ln cap]
abbrev funO (nm : ByteArray) (pa : Option Addr) (pn pc : Nat) (k o : Int) (s : ByteArray) (n : Int) (a : Option Addr) (ln cap : Nat) : Obj := .cells #[.string nm, .slice pa pn pc, .int .i64 k, .int .i64 o, .string s, .int .i64 n, .slice a ln cap] 45 (0, 0)
abbrev set7 (w : World) (b : Nat) (nm : ByteArray) (pa : Option Addr) (pn pc : Nat) (k o : Int) (s : ByteArray) (n : Int) (a : Option Addr) (ln cap : Nat) : World := (((((((w).setCell ⟨b, 0, none⟩ (.string nm)).setCell ⟨b, 1, none⟩ (.slice pa pn pc)).setCell ⟨b, 2, none⟩ (.int .i64 k)).setCell ⟨b, 3, none⟩ (.int .i64 o)).setCell ⟨b, 4, none⟩ (.string s)).setCell ⟨b, 5, none⟩ (.int .i64 n)).setCell ⟨b, 6, none⟩ (.slice a ln cap)
theorem St.set7 {w : World} {g len : Nat} {st : PS} (h : St w g len st) {b : Nat} (hb : g < b) (nm : ByteArray) (pa : Option Addr) (pn pc : Nat) (k o : Int) (s : ByteArray) (n : Int) (a : Option Addr) (ln cap : Nat) : St (set7 w b nm pa pn pc k o s n a ln cap) g len st :=
  ((((((h.set hb _ _).set hb _ _).set hb _ _).set hb _ _).set hb _ _).set hb _ _).set hb _ _
theorem Gr.set7 {g : Nat} {a0 w : World} (h : Gr g a0 w) {b : Nat} (hb : a0.heap.size ≤ b) (nm : ByteArray) (pa : Option Addr) (pn pc : Nat) (k o : Int) (s : ByteArray) (n : Int) (a : Option Addr) (ln cap : Nat) : Gr g a0 (set7 w b nm pa pn pc k o s n a ln cap) :=
  ((((((h.set (Or.inl hb) _).set (Or.inl hb) _).set (Or.inl hb) _).set (Or.inl hb) _).set (Or.inl hb) _).set (Or.inl hb) _).set (Or.inl hb) _
theorem set7_row {w : World} {b : Nat} {c0 c1 c2 c3 c4 c5 c6 : Value} (h : w.heap[b]? = some (.cells #[c0, c1, c2, c3, c4, c5, c6] 45 (0, 0))) (nm : ByteArray) (pa : Option Addr) (pn pc : Nat) (k o : Int) (s : ByteArray) (n : Int) (a : Option Addr) (ln cap : Nat) : (set7 w b nm pa pn pc k o s n a ln cap).heap[b]? = some (funO nm pa pn pc k o s n a ln cap) := by
  have h7 := row_set (row_set (row_set (row_set (row_set (row_set (row_set h 0 (.string nm)) 1 (.slice pa pn pc)) 2 (.int .i64 k)) 3 (.int .i64 o)) 4 (.string s)) 5 (.int .i64 n)) 6 (.slice a ln cap)
  simpa only [List.setIfInBounds_toArray, List.set_cons_zero, List.set_cons_succ] using h7
theorem set7_block {w : World} {b x : Nat} (hx : x ≠ b) (nm : ByteArray) (pa : Option Addr) (pn pc : Nat) (k o : Int) (s : ByteArray) (n : Int) (a : Option Addr) (ln cap : Nat) : (set7 w b nm pa pn pc k o s n a ln cap).heap[x]? = w.heap[x]? := by
  rw [Below.heap_setCell _ _ _ _ hx, Below.heap_setCell _ _ _ _ hx, Below.heap_setCell _ _ _ _ hx, Below.heap_setCell _ _ _ _ hx, Below.heap_setCell _ _ _ _ hx, Below.heap_setCell _ _ _ _ hx, Below.heap_setCell _ _ _ _ hx]
theorem set7_size (w : World) (b : Nat) (nm : ByteArray) (pa : Option Addr) (pn pc : Nat) (k o : Int) (s : ByteArray) (n : Int) (a : Option Addr) (ln cap : Nat) : (set7 w b nm pa pn pc k o s n a ln cap).heap.size = w.heap.size := by
  simp [World.setCell]
theorem res_fun {fn : Func} {p : Tmp} (h : fn.results = #[.cell p 45]) (tmps : Array Value) (w : World) (b : Nat) (nm : ByteArray) (pa : Option Addr) (pn pc : Nat) (k o : Int) (s : ByteArray) (n : Int) (a : Option Addr) (ln cap : Nat) (hp : tmps.getD p undef = .pointer (some ⟨b, 0, none⟩)) (hg : w.heap[b]? = some (funO nm pa pn pc k o s n a ln cap)) :
    (results fn tmps).run Tryz.prog w = .ok (funV nm pa pn pc k o s n a ln cap) w :=
  results_cell_row h tmps w b _ _ _ _ hp hg Tryz.underlying45 rfl (by kernel_rfl)

/-- A function as a value. -/
def RepFn (w : World) (F : Nat → Prop) (p : PFn) (v : Value) : Prop :=
  ∃ pa pc a cap, v = funV p.nm pa p.ps.length pc p.bd.k p.bd.o p.bd.s p.bd.n a p.bd.l.length cap ∧ p.ps.length ≤ pc ∧ RepS w F p.ps pa ∧ p.bd.l.length ≤ cap ∧ RepNL w F p.bd.l a

/-- What a call that reads a function answers. -/
def FunIs (g len : Nat) (w : World) (r : PFn × PS) (e : Ending) (w' : World) : Prop :=
  ∃ v, e = .returned v ∧ RepFn w' (Fr w.heap.size w'.heap.size) r.1 v ∧ St w' g len r.2 ∧ Gr g w w'

set_option maxHeartbeats 1000000 in
theorem fun_any (len g : Nat) (bl : Rdr) (f : Nat) (st : PS) (w : World) (hR : Rs w g len st) (hf : st.ts.length < f) (hf2 : f ≤ 100000) (hbl : ExIs g len 91 bl (funB len f st).2 w) :
    Calls Tryz.prog 45 #[.pointer (some ⟨g, 0, none⟩)] w (FunIs g len w (funP len bl f st)) := by
  have hg : g < w.heap.size := hR.st.lt
  unfold funP
  have HW := hide (fun W (x : St W g len st) => pword_any len g st ⟨#[102, 110]⟩ W x)
  have HN := hide (fun W (x : St W g len (st.word len ⟨#[102, 110]⟩)) => name_p len g _ W x)
  have HG := hide (fun W (x : St W g len (funA len st).2) => psign_any len g (funA len st).2 ⟨#[40]⟩ W x)
  have e1 := word_le st len ⟨#[102, 110]⟩
  have e2 := name_le (st.word len ⟨#[102, 110]⟩) len
  have e3 := psign_le (funA len st).2 len ⟨#[40]⟩
  have e2b : (funA len st).2.ts.length ≤ st.ts.length := Nat.le_trans e2 e1
  have HP := hide (fun W (x : St W g len ((funA len st).2.sign len ⟨#[40]⟩)) => par_any len g f _ W x (by omega) hf2)
  have HB := hide hbl
  unfold ExIs at HB
  have HR := hide hR
  clear hR hbl e1 e2 e2b e3 hf
  replace HP : Hd (∀ W, St W g len ((funA len st).2.sign len ⟨#[40]⟩) → Calls Tryz.prog 90 #[.pointer (some ⟨g, 0, none⟩)] W (Names g len W (funB len f st))) := HP
  replace HN : Hd (∀ W, St W g len (st.word len ⟨#[102, 110]⟩) → Calls Tryz.prog 88 #[.pointer (some ⟨g, 0, none⟩)] W fun e w' => e = .returned (.string (funA len st).1) ∧ St w' g len (funA len st).2 ∧ Gr g W w') := HN
  generalize funB len f st = q at *
  obtain ⟨ps, st4⟩ := q
  generalize funA len st = q at *
  obtain ⟨nm, st2⟩ := q
  simp only at HB ⊢
  generalize bl st4 = q at *
  obtain ⟨⟨k, o, s, n, l⟩, st5⟩ := q
  go_enter Tryz.func45, Tryz.ntmps45
  go_wp2_with (first
    | (go_at_call 87; refine Calls.mono (unhide HW _ ((unhide HR).st.alloc _)) ?_; rintro e w1 ⟨rfl, hs, hw⟩; have RA := hide (hw.row (Go.heap_alloc_new w _) (by omega)); have S1 := hide hs; have X1 := hide ((Gr.of (Ext.alloc _ _)).trans hw); clear hw hs)
    | (go_at_call 88; refine Calls.mono (unhide HN _ (unhide S1)) ?_; rintro e w2 ⟨rfl, hs, hw⟩; have RB := hide (hw.row (unhide RA) (by omega)); have S2 := hide hs; have X2 := hide ((unhide X1).trans hw); clear hw hs)
    | (go_at_call 89; refine Calls.mono (unhide HG _ (unhide S2)) ?_; rintro e w3 ⟨rfl, hs, hw⟩; have RC := hide (hw.row (unhide RB) (by omega)); have S3 := hide hs; have X3 := hide ((unhide X2).trans hw); have hlt3 : w.heap.size < w3.heap.size := (Array.getElem?_eq_some_iff.1 (unhide RC)).1; clear hw hs)
    | (go_at_call 90; refine Calls.mono (unhide HP _ (unhide S3)) ?_; rintro e w4 ⟨pa, pc, rfl, hpc, hps, hs, hw⟩; have RD := hide (hw.row (unhide RC) (by omega)); have PS4 := hide hps; have S4 := hide hs; have X4 := hide ((unhide X3).trans hw); have hlt4 : w3.heap.size ≤ w4.heap.size := hw.size; clear hw hs hps)
    | (go_at_call 91; refine Calls.mono (unhide HB _ (unhide X4) ((unhide HR).go (unhide X4) (unhide S4))) ?_; rintro e w5 ⟨v, rfl, hr, hs, hw⟩; rw [RepN] at hr; obtain ⟨a, cap, rfl, hcap, hl⟩ := hr; have RE := hide (hw.row (unhide RD) (by omega)); have r0 := rowC (unhide RE) 0 rfl; have r1 := rowC (unhide RE) 1 rfl; have r2 := rowC (unhide RE) 2 rfl; have r3 := rowC (unhide RE) 3 rfl; have r4 := rowC (unhide RE) 4 rfl; have r5 := rowC (unhide RE) 5 rfl; have r6 := rowC (unhide RE) 6 rfl; have rz := rowF (unhide RE); have S5 := hide hs; have L5 := hide hl; have G5 := hide hw; have X5 := hide ((unhide X4).trans hw); have hlt5 : w4.heap.size ≤ w5.heap.size := hw.size; clear hw hs hl))
  refine bodyPost_ret (res_fun rfl _ _ w.heap.size nm pa ps.length pc k o s n a l.length cap rfl (set7_row (unhide RE) _ _ _ _ _ _ _ _ _ _ _)) rfl ?_
  have hpc : ps.length ≤ pc := hpc
  have PS5 : RepS w4 (Fr w3.heap.size w4.heap.size) ps pa := unhide PS4
  have K5 : RepNL w5 (Fr w4.heap.size w5.heap.size) l a := unhide L5
  have hz := set7_size w5 w.heap.size nm pa ps.length pc k o s n a l.length cap
  have hk : ∀ b, b ≠ w.heap.size → _ := fun b hb => set7_block (w := w5) (b := w.heap.size) (x := b) hb nm pa ps.length pc k o s n a l.length cap
  refine ⟨_, rfl, ⟨pa, pc, a, cap, rfl, hpc, ?_, hcap, ?_⟩, (unhide S5).set7 hg _ _ _ _ _ _ _ _ _ _ _, (unhide X5).set7 (Nat.le_refl _) _ _ _ _ _ _ _ _ _ _ _⟩
  · exact RepS.to (fun b hb => ⟨⟨by have := hb.1; omega, by rw [hz]; have := hb.2; omega⟩, (hk b (by have := hb.1; omega)).trans ((unhide G5).block b hb.2 (by have := hb.1; omega))⟩) PS5
  · exact RepNL.to (fun b hb => ⟨⟨by have := hb.1; omega, by rw [hz]; exact hb.2⟩, hk b (by have := hb.1; omega)⟩) _ _ K5

end Go.Proofs.YtbcflcnkhhkogaaGreatDoor
