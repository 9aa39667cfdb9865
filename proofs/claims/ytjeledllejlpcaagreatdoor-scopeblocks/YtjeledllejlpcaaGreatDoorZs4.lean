/- What it is that a world holds a reader, and a tree; what stays so when it goes on. · The reader's small steps: what stands ahead, what is taken, what fails. · The reader's steps that take a word, fail, open and shut. · The table of operators: which stands at a level with a sign; the node that it makes. -/
import Derived.Test.YtjeledllejlpcaaGreatDoorZs3
import Derived.Deep.QuietTactic
import Derived.BigQuiet
import Derived.Defers
import Derived.BigRegion
import Derived.Deep.MidRow
set_option linter.unusedSimpArgs false
set_option linter.unusedVariables false
set_option maxRecDepth 10000

namespace Go.Proofs.YtjeledllejlpcaaGreatDoor
open Go.RowKit

/-- Memory was made, and of what stood there the block g alone may have turned. -/
structure Gr (g : Nat) (w w' : World) : Prop where
  os : w'.os = w.os
  tape : w'.tape = w.tape
  output : w'.output = w.output
  size : w.heap.size ≤ w'.heap.size
  block : ∀ k, k < w.heap.size → k ≠ g → w'.heap[k]? = w.heap[k]?

theorem Gr.refl (g : Nat) (w : World) : Gr g w w := ⟨rfl, rfl, rfl, Nat.le_refl _, fun _ _ _ => rfl⟩
theorem Gr.trans {g : Nat} {a b c : World} (h : Gr g a b) (k : Gr g b c) : Gr g a c :=
  ⟨k.os.trans h.os, k.tape.trans h.tape, k.output.trans h.output, Nat.le_trans h.size k.size, fun i hi hg => (k.block i (Nat.lt_of_lt_of_le hi h.size) hg).trans (h.block i hi hg)⟩
theorem Gr.of {g : Nat} {w w' : World} (h : Ext w w') : Gr g w w' := ⟨h.os, h.tape, h.output, h.size, fun k hk _ => h.block k hk⟩
theorem Gr.alloc {g : Nat} {a w : World} (h : Gr g a w) (o : Obj) : Gr g a (w.alloc o) := h.trans (Gr.of (Ext.alloc _ _))
theorem Gr.drew {g : Nat} {a w : World} (h : Gr g a w) : Gr g a w.drew := h.trans (Gr.of (Ext.drew (Ext.refl _)))
theorem Gr.set {g : Nat} {a w : World} (h : Gr g a w) {p : Addr} (hp : a.heap.size ≤ p.block ∨ p.block = g) (v : Value) : Gr g a (w.setCell p v) :=
  ⟨h.os, h.tape, h.output, Nat.le_trans h.size (by simp [World.setCell]), fun k hk hg => (Below.heap_setCell _ _ _ _ (by rcases hp with hp | hp <;> omega)).trans (h.block k hk hg)⟩
theorem Gr.row {g : Nat} {w w' : World} (h : Gr g w w') {b : Nat} {x : Obj} (hc : w.heap[b]? = some x) (hb : b ≠ g) : w'.heap[b]? = some x :=
  (h.block b (Array.getElem?_eq_some_iff.1 hc).1 hb).trans hc
theorem Gr.cell {g : Nat} {w w' : World} (h : Gr g w w') {b o : Nat} {v : Value} (hc : w.cell? ⟨b, o, none⟩ = some v) (hb : b ≠ g) : w'.cell? ⟨b, o, none⟩ = some v := by
  have hlt : b < w.heap.size := World.block_lt_of_cell? w ⟨b, o, none⟩ hc
  rw [World.cell?_of_block (w := w) (h.block b hlt hb)]; exact hc
theorem Ext.gr {g : Nat} {a w w' : World} (h : Ext a w) (k : Gr g w w') (hg : a.heap.size ≤ g) : Ext a w' :=
  ⟨k.os.trans h.os, k.tape.trans h.tape, k.output.trans h.output, Nat.le_trans h.size k.size, fun i hi => (k.block i (Nat.lt_of_lt_of_le hi h.size) (by omega)).trans (h.block i hi)⟩

theorem rowC {w : World} {g : Nat} {cs : Array Value} {t : TypeId} (h : w.heap[g]? = some (.cells cs t (0, 0))) (i : Nat) {v : Value} (hi : cs[i]? = some v) : w.cell? ⟨g, i, none⟩ = some v := by
  rw [cell_of_row w g i cs t (0, 0) h]; exact hi
theorem rowF {w : World} {g : Nat} {cs : Array Value} {t : TypeId} (h : w.heap[g]? = some (.cells cs t (0, 0))) (i : Nat) : w.frozen? ⟨g, i, none⟩ = false := by
  simp [World.frozen?, h]
theorem row_set {w : World} {g : Nat} {cs : Array Value} {t : TypeId} (h : w.heap[g]? = some (.cells cs t (0, 0))) (i : Nat) (v : Value) : (w.setCell ⟨g, i, none⟩ v).heap[g]? = some (.cells (cs.setIfInBounds i v) t (0, 0)) := by
  simp [World.setCell, Array.getElem?_modify, h]
theorem row_other {w : World} {g b : Nat} {x : Option Obj} (h : w.heap[g]? = x) (hne : g ≠ b) (i : Nat) (v : Value) : (w.setCell ⟨b, i, none⟩ v).heap[g]? = x :=
  (Below.heap_setCell _ _ _ _ hne).trans h

/-- The words that are left, as a slice. -/
def Sl (w : World) (g : Nat) (T : Value) (ts : List Tk) : Prop := ∃ a cap, T = .slice a ts.length cap ∧ ts.length ≤ cap ∧ cap ≤ 9223372036854775807 ∧
  (ts = [] ∨ ∃ b off, a = some ⟨b, off, none⟩ ∧ b < g ∧ ∀ j u, (ts.flatMap tkC)[j]? = some u → w.cell? ⟨b, off + j, none⟩ = some u)

theorem Sl.on {w w' : World} {g : Nat} {T : Value} {ts : List Tk} (h : Sl w g T ts) (k : Gr g w w') : Sl w' g T ts := by
  obtain ⟨a, cap, rfl, h1, h2, h3⟩ := h
  refine ⟨a, cap, rfl, h1, h2, ?_⟩
  rcases h3 with h3 | ⟨b, off, rfl, hb, hc⟩
  · exact Or.inl h3
  · exact Or.inr ⟨b, off, rfl, hb, fun j u hu => k.cell (hc j u hu) (by omega)⟩
theorem slNil (w : World) (g : Nat) : Sl w g (.slice none 0 0) [] := ⟨_, _, rfl, Nat.le_refl _, by decide, Or.inl rfl⟩

abbrev rdO (T : Value) (len : Nat) (op pl e : Int) : Obj := .cells #[T, .int .i64 (len : Int), .int .i64 op, .int .i64 pl, .int .i64 e] 43 (0, 0)

/-- The block g holds a reader that stands so. -/
structure St (w : World) (g len : Nat) (st : PS) : Prop where
  ex : ∃ T, w.heap[g]? = some (rdO T len st.op st.pl st.e) ∧ Sl w g T st.ts

theorem St.ext {w w' : World} {g len : Nat} {st : PS} (h : St w g len st) (k : Ext w w') : St w' g len st := by
  obtain ⟨T, h1, h2⟩ := h.ex
  exact ⟨T, k.row h1, h2.on (Gr.of k)⟩
theorem St.alloc {w : World} {g len : Nat} {st : PS} (h : St w g len st) (o : Obj) : St (w.alloc o) g len st := h.ext (Ext.alloc _ _)
theorem St.lt {w : World} {g len : Nat} {st : PS} (h : St w g len st) : g < w.heap.size := by
  obtain ⟨T, h1, h2⟩ := h.ex
  exact (Array.getElem?_eq_some_iff.1 h1).1
theorem St.set {w : World} {g len : Nat} {st : PS} (h : St w g len st) {b : Nat} (hb : g < b) (i : Nat) (v : Value) : St (w.setCell ⟨b, i, none⟩ v) g len st := by
  obtain ⟨T, h1, a, cap, rfl, h3, h4, h5⟩ := h.ex
  refine ⟨_, row_other h1 (by omega) _ _, a, cap, rfl, h3, h4, ?_⟩
  rcases h5 with h5 | ⟨b', off, rfl, hb', hc⟩
  · exact Or.inl h5
  · refine Or.inr ⟨b', off, rfl, hb', fun j u hu => ?_⟩
    rw [World.cell?_of_block (w := w) (Below.heap_setCell w ⟨b, i, none⟩ v b' (by show b' ≠ b; omega))]
    exact hc j u hu

theorem St.drew {w : World} {g len : Nat} {st : PS} (h : St w g len st) : St w.drew g len st := h.ext (Ext.drew (Ext.refl _))
theorem St.set4 {w : World} {g len : Nat} {st : PS} (h : St w g len st) {b : Nat} (hb : g < b) (k : Int) (t : ByteArray) (n o : Int) : St (set4 w b k t n o) g len st :=
  (((h.set hb _ _).set hb _ _).set hb _ _).set hb _ _
theorem Gr.set4 {g : Nat} {a w : World} (h : Gr g a w) {b : Nat} (hb : a.heap.size ≤ b) (k : Int) (t : ByteArray) (n o : Int) : Gr g a (set4 w b k t n o) :=
  (((h.set (Or.inl hb) _).set (Or.inl hb) _).set (Or.inl hb) _).set (Or.inl hb) _
/-- The words left are set anew. -/
theorem St.put {w : World} {g len : Nat} {T T2 : Value} {ts : List Tk} {op pl e : Int} (h : w.heap[g]? = some (rdO T len op pl e)) (hs : ∀ W, Gr g w W → Sl W g T2 ts) : St (w.setCell ⟨g, 0, none⟩ T2) g len ⟨ts, op, pl, e⟩ :=
  ⟨⟨T2, row_set h 0 T2, hs _ ((Gr.refl g w).set (p := ⟨g, 0, none⟩) (Or.inr rfl) _)⟩⟩
/-- What is open is set anew. -/
theorem St.putOp {w : World} {g len : Nat} {st : PS} (h : St w g len st) (op : Int) : St (w.setCell ⟨g, 2, none⟩ (.int .i64 op)) g len ⟨st.ts, op, st.pl, st.e⟩ := by
  obtain ⟨T, h1, h2⟩ := h.ex
  exact ⟨⟨T, row_set h1 2 _, h2.on ((Gr.refl g w).set (p := ⟨g, 2, none⟩) (Or.inr rfl) _)⟩⟩

@[go_sem] theorem fldT0 (k : Int) (t : ByteArray) (n o : Int) (W : World) : (Instr.field 81 (tokV k t n o) 0).run Tryz.prog W = .ok (.int .i64 k) W := by
  simp [Instr.field, asAgg, go_sem]
@[go_sem] theorem fldT1 (k : Int) (t : ByteArray) (n o : Int) (W : World) : (Instr.field 81 (tokV k t n o) 1).run Tryz.prog W = .ok (.string t) W := by
  simp [Instr.field, asAgg, go_sem]
@[go_sem] theorem fldT2 (k : Int) (t : ByteArray) (n o : Int) (W : World) : (Instr.field 81 (tokV k t n o) 2).run Tryz.prog W = .ok (.int .i64 n) W := by
  simp [Instr.field, asAgg, go_sem]

end Go.Proofs.YtjeledllejlpcaaGreatDoor

namespace Go.Proofs.YtjeledllejlpcaaGreatDoor
open Go.RowKit

theorem is_any (k : Int) (t : ByteArray) (n o : Int) (kd : Int) (s : ByteArray) (w : World) :
    Calls Tryz.prog 69 #[tokV k t n o, .int .i64 kd, .string s] w fun e w' => e = .returned (.bool ((k == kd) && (t.toList == s.toList))) ∧ Ext w w' := by
  cases hk : (k == kd)
  all_goals
    go_enter Tryz.func69, Tryz.ntmps69
    go_wp2
    go_ret
    exact ⟨rfl, Ext.alloc _ _⟩

theorem flat_at : ∀ (ts : List Tk) (k : Nat) (x : Tk), ts[k]? = some x → (ts.flatMap tkC)[k * 4]? = some (.int .i64 x.k) ∧ (ts.flatMap tkC)[k * 4 + 1]? = some (.string x.t) ∧ (ts.flatMap tkC)[k * 4 + 2]? = some (.int .i64 x.n) ∧ (ts.flatMap tkC)[k * 4 + 3]? = some (.int .i64 x.o)
  | [], k, x, h => by simp at h
  | y :: r, 0, x, h => by
    simp only [List.getElem?_cons_zero, Option.some.injEq] at h
    subst h
    exact ⟨rfl, rfl, rfl, rfl⟩
  | y :: r, k + 1, x, h => by
    rw [List.getElem?_cons_succ] at h
    obtain ⟨h0, h1, h2, h3⟩ := flat_at r k x h
    have e : ∀ i, ((y :: r).flatMap tkC)[(k + 1) * 4 + i]? = (r.flatMap tkC)[k * 4 + i]? := by
      intro i
      rw [List.flatMap_cons, List.getElem?_append_right (by show 4 ≤ _; omega)]
      congr 1
      show (k + 1) * 4 + i - 4 = _
      omega
    exact ⟨by rw [show (k + 1) * 4 = (k + 1) * 4 + 0 by omega, e]; exact h0, by rw [e]; exact h1, by rw [e]; exact h2, by rw [e]; exact h3⟩

/-- What the slice of the words left holds at a place. -/
theorem Sl.at {w : World} {g : Nat} {T : Value} {ts : List Tk} (h : Sl w g T ts) (m : Nat) (hm : m < ts.length) : ∃ (b off cap : Nat) (x : Tk), T = .slice (some ⟨b, off, none⟩) ts.length cap ∧ b < g ∧ ts.length ≤ cap ∧ cap ≤ 9223372036854775807 ∧ hdT ts m = x ∧
    w.cell? ⟨b, off + m * 4, none⟩ = some (.int .i64 x.k) ∧ w.cell? ⟨b, off + m * 4 + 1, none⟩ = some (.string x.t) ∧ w.cell? ⟨b, off + m * 4 + 2, none⟩ = some (.int .i64 x.n) ∧ w.cell? ⟨b, off + m * 4 + 3, none⟩ = some (.int .i64 x.o) := by
  obtain ⟨a, cap, rfl, h1, h2, h3⟩ := h
  rcases h3 with rfl | ⟨b, off, rfl, hb, hc⟩
  · simp at hm
  · obtain ⟨x, hx⟩ : ∃ x, ts[m]? = some x := ⟨_, List.getElem?_eq_getElem hm⟩
    obtain ⟨f0, f1, f2, f3⟩ := flat_at ts m x hx
    refine ⟨b, off, cap, x, rfl, hb, h1, h2, by unfold hdT; rw [hx]; rfl, hc _ _ f0, ?_, ?_, ?_⟩
    · have := hc _ _ f1; rw [← Nat.add_assoc] at this; exact this
    · have := hc _ _ f2; rw [← Nat.add_assoc] at this; exact this
    · have := hc _ _ f3; rw [← Nat.add_assoc] at this; exact this

set_option maxHeartbeats 1000000 in
theorem ahead_any (len g : Nat) (st : PS) (i : Int) (m : Nat) (hi : i = m) (w : World) (hS : St w g len st) :
    Calls Tryz.prog 46 #[.pointer (some ⟨g, 0, none⟩), .int .i64 i] w fun e w' => e = .returned (tokV (hdT st.ts m).k (hdT st.ts m).t (hdT st.ts m).n (hdT st.ts m).o) ∧ Ext w w' := by
  have hg : g < w.heap.size := hS.lt
  obtain ⟨T, h1, hT⟩ := hS.ex
  have c0 : w.cell? ⟨g, 0, none⟩ = some T := rowC h1 0 rfl
  by_cases hlt : m < st.ts.length
  · obtain ⟨b, off, cap, x, rfl, hb, hcap, hcm, hx, p0, p1, p2, p3⟩ := hT.at m hlt
    rw [hx]
    have hb2 : b < w.heap.size := by omega
    generalize st.ts.length = L at *
    clear hx hS h1
    go_enter Tryz.func46, Tryz.ntmps46
    go_wp2
    exact bodyPost_ret (v := tokV x.k x.t x.n x.o) (by simp [results, Tryz.results46, go_sem]) rfl ⟨rfl, Ext.alloc _ _⟩
  · obtain ⟨a, cap, rfl, h3, h4, -⟩ := hT
    have hle : ¬ (i < (st.ts.length : Int)) := by omega
    have e : hdT st.ts m = tkZ := by unfold hdT; rw [List.getElem?_eq_none (by omega)]; rfl
    rw [e]
    clear hlt hS h1
    go_enter Tryz.func46, Tryz.ntmps46
    go_wp2
    exact bodyPost_ret (v := tokV 0 ⟨#[]⟩ 0 0) (by simp [results, Tryz.results46, go_sem]) rfl ⟨rfl, Ext.alloc _ _⟩

theorem here_any (len g : Nat) (st : PS) (w : World) (hS : St w g len st) :
    Calls Tryz.prog 68 #[.pointer (some ⟨g, 0, none⟩)] w fun e w' => e = .returned (.int .i64 (st.here len)) ∧ w' = w := by
  obtain ⟨T, h1, hT⟩ := hS.ex
  have c0 : w.cell? ⟨g, 0, none⟩ = some T := rowC h1 0 rfl
  have c1 : w.cell? ⟨g, 1, none⟩ = some (.int .i64 (len : Int)) := rowC h1 1 rfl
  cases hts : st.ts with
  | nil =>
    rw [hts] at hT
    obtain ⟨a, cap, rfl, h3, h4, -⟩ := hT
    have e : st.here len = len := by unfold PS.here; rw [hts]
    rw [e]
    clear hS h1 hts e
    go_enter Tryz.func68, Tryz.ntmps68
    go_wp2
    go_ret
    exact ⟨rfl, rfl⟩
  | cons t r =>
    obtain ⟨b, off, cap, x, rfl, hb, hcap, hcm, hx, p0, p1, p2, p3⟩ := hT.at 0 (by rw [hts]; simp)
    have hx2 : t = x := by rw [← hx, hts]; rfl
    subst hx2
    have e : st.here len = t.o := by unfold PS.here; rw [hts]
    have hl : st.ts.length = r.length + 1 := by rw [hts]; rfl
    rw [e]
    rw [hl] at c0 hcap
    simp only [Nat.zero_mul, Nat.add_zero] at p3
    have hz : (((r.length + 1 : Nat) : Int) == 0) = false := by simp; omega
    have hz0 : 0 < r.length + 1 := by omega
    generalize r.length + 1 = L at *
    clear hS h1 hts e hx hl hT
    go_enter Tryz.func68, Tryz.ntmps68
    go_wp2
    go_ret
    exact ⟨rfl, rfl⟩

theorem ended_any (len g : Nat) (st : PS) (w : World) (hS : St w g len st) :
    Calls Tryz.prog 18 #[.pointer (some ⟨g, 0, none⟩)] w fun e w' => e = .returned (.bool ((st.ts.length : Int) == 0)) ∧ w' = w := by
  obtain ⟨T, h1, hT⟩ := hS.ex
  have c0 : w.cell? ⟨g, 0, none⟩ = some T := rowC h1 0 rfl
  obtain ⟨a, cap, rfl, h3, h4, -⟩ := hT
  generalize st.ts.length = L at *
  clear hS h1
  go_enter Tryz.func18, Tryz.ntmps18
  go_wp2
  go_ret
  exact ⟨rfl, rfl⟩

theorem isSign_any (len g : Nat) (st : PS) (s : ByteArray) (w : World) (hS : St w g len st) :
    Calls Tryz.prog 49 #[.pointer (some ⟨g, 0, none⟩), .string s] w fun e w' => e = .returned (.bool (st.isS s)) ∧ Ext w w' := by
  have HA := hide (ahead_any len g st 0 0 rfl w hS)
  unfold PS.isS isT
  clear hS
  go_enter Tryz.func49, Tryz.ntmps49
  go_wp2_with (first
    | (go_at_call 46; refine Calls.mono (unhide HA) ?_; rintro e w1 ⟨rfl, hw⟩; have X := hide hw; clear hw)
    | (go_at_call 69; refine Calls.mono (is_any _ _ _ _ _ _ _) ?_; rintro e w2 ⟨rfl, hw⟩; have Y := hide ((unhide X).trans hw); clear hw))
  go_ret
  exact ⟨rfl, unhide Y⟩

theorem isWord_p (len g : Nat) (st : PS) (s : ByteArray) (w : World) (hS : St w g len st) :
    Calls Tryz.prog 67 #[.pointer (some ⟨g, 0, none⟩), .string s] w fun e w' => e = .returned (.bool (st.isW s)) ∧ Ext w w' := by
  have HA := hide (ahead_any len g st 0 0 rfl w hS)
  unfold PS.isW isT
  clear hS
  go_enter Tryz.func67, Tryz.ntmps67
  go_wp2_with (first
    | (go_at_call 46; refine Calls.mono (unhide HA) ?_; rintro e w1 ⟨rfl, hw⟩; have X := hide hw; clear hw)
    | (go_at_call 69; refine Calls.mono (is_any _ _ _ _ _ _ _) ?_; rintro e w2 ⟨rfl, hw⟩; have Y := hide ((unhide X).trans hw); clear hw))
  go_ret
  exact ⟨rfl, unhide Y⟩

theorem fail_any (len g : Nat) (st : PS) (c : Int) (w : World) (hS : St w g len st) :
    Calls Tryz.prog 45 #[.pointer (some ⟨g, 0, none⟩), .int .i64 c] w fun e w' => e = .returned (.tuple #[]) ∧ St w' g len (st.fail len c) ∧ Gr g w w' := by
  have HH := hide (here_any len g st w hS)
  obtain ⟨T, h1, hT⟩ := hS.ex
  have c0 : w.cell? ⟨g, 0, none⟩ = some T := rowC h1 0 rfl
  have c3 : w.cell? ⟨g, 3, none⟩ = some (.int .i64 st.pl) := rowC h1 3 rfl
  have c4 : w.cell? ⟨g, 4, none⟩ = some (.int .i64 st.e) := rowC h1 4 rfl
  have zf := rowF h1
  unfold PS.fail
  by_cases he : st.e = 0
  · rw [if_pos he]
    have H1 := hide h1
    have HE := hide he
    rw [he] at c4
    clear hS h1 hT he
    go_enter Tryz.func45, Tryz.ntmps45
    go_wp2_with (go_at_call 68; refine Calls.mono (unhide HH) ?_; rintro e w1 ⟨rfl, hw⟩; obtain rfl := hw.symm)
    go_end0
    refine ⟨rfl, ⟨⟨_, row_set (row_set (row_set (unhide H1) _ _) _ _) _ _, slNil _ _⟩⟩, Gr.set (Gr.set (Gr.set (Gr.refl g w) (p := ⟨g, _, none⟩) (Or.inr rfl) _) (p := ⟨g, _, none⟩) (Or.inr rfl) _) (p := ⟨g, _, none⟩) (Or.inr rfl) _⟩
  · rw [if_neg he]
    have H1 := hide h1
    have he2 : (st.e == 0) = false := by simpa using he
    clear hS h1 hT he
    go_enter Tryz.func45, Tryz.ntmps45
    go_wp2_with (go_at_call 68; refine Calls.mono (unhide HH) ?_; rintro e w1 ⟨rfl, hw⟩; obtain rfl := hw.symm)
    go_end0
    refine ⟨rfl, ⟨⟨_, row_set (unhide H1) _ _, slNil _ _⟩⟩, Gr.set (Gr.refl g w) (p := ⟨g, _, none⟩) (Or.inr rfl) _⟩

end Go.Proofs.YtjeledllejlpcaaGreatDoor

namespace Go.Proofs.YtjeledllejlpcaaGreatDoor
open Go.RowKit

/-- The slice of the words left, one further. -/
abbrev slN (a : Option Addr) (L cap : Nat) : Value := .slice (if cap = (min 1 (L : Int)).toNat then a else Option.map (fun x => x.add ((min 1 (L : Int)).toNat * 4)) a) (L - (min 1 (L : Int)).toNat) (cap - (min 1 (L : Int)).toNat)

theorem Sl.tail {w : World} {g : Nat} {a : Option Addr} {L cap : Nat} {ts : List Tk} (hL : L = ts.length) (h : Sl w g (.slice a L cap) ts) : Sl w g (slN a L cap) ts.tail := by
  obtain ⟨a', c, e, h1, h2, h3⟩ := h
  injection e with e1 e2 e3
  subst e3 e1 hL
  cases ts with
  | nil => exact ⟨_, _, rfl, Nat.zero_le _, by simp; omega, Or.inl rfl⟩
  | cons t r =>
    have hm : (min 1 (((t :: r).length : Nat) : Int)).toNat = 1 := by simp; omega
    unfold slN
    rw [hm]
    refine ⟨_, _, rfl, by simp at h1 ⊢; omega, by omega, ?_⟩
    rcases h3 with h3 | ⟨b, off, rfl, hb, hc⟩
    · cases h3
    · by_cases hr : r = []
      · exact Or.inl (by rw [hr]; rfl)
      · have hc1 : cap ≠ 1 := by
          intro e
          rw [e] at h1
          simp at h1
          exact hr h1
        rw [if_neg hc1]
        refine Or.inr ⟨b, off + 4, ?_, hb, fun j u hu => ?_⟩
        · show some (Addr.add _ 4) = _
          unfold Addr.add
          split <;> simp_all
        · have := hc (4 + j) u (by rw [List.flatMap_cons, List.getElem?_append_right (by show 4 ≤ _; omega)]; show (r.flatMap tkC)[4 + j - 4]? = _; rw [Nat.add_sub_cancel_left]; exact hu)
          rw [← Nat.add_assoc] at this
          exact this

theorem gen_world {F : World → Prop} {w : World} (h : ∀ W2, W2 = w → F W2) : F w := h _ rfl

set_option maxHeartbeats 2000000 in
theorem next_any (len g : Nat) (st : PS) (w : World) (hS : St w g len st) :
    Calls Tryz.prog 47 #[.pointer (some ⟨g, 0, none⟩)] w fun e w' => e = .returned (tokV (hdT st.ts 0).k (hdT st.ts 0).t (hdT st.ts 0).n (hdT st.ts 0).o) ∧ St w' g len st.next ∧ Gr g w w' := by
  have hg : g < w.heap.size := hS.lt
  have HA := hide (fun W (x : Ext w W) => ahead_any len g st 0 0 rfl W (hS.ext x))
  have HT := hide (fun W (x : Ext w W) => (hS.ext x).ex)
  obtain ⟨ts, op, pl, er⟩ := st
  generalize hdT ts 0 = y at HA
  obtain ⟨L, hL⟩ : ∃ L, L = ts.length := ⟨_, rfl⟩
  have HL := hide hL
  clear hS
  ·
    go_enter Tryz.func47, Tryz.ntmps47
    go_wp2_with (go_at_call 46; refine Calls.mono (unhide HA _ (Ext.alloc _ _)) ?_; rintro e w1 ⟨rfl, hw⟩; have X := hide ((Ext.alloc _ _).trans hw); have hg1 : w.heap.size < w1.heap.size := Nat.lt_of_lt_of_le (by simp) hw.le; have f4 := (Four.new w 81 0 ⟨#[]⟩ 0 0).on hw; have F4 := hide f4; clear hw f4)
    obtain ⟨W, hW⟩ : ∃ W, W = w1.alloc (.cells #[.int .i64 y.k, .string y.t, .int .i64 y.n, .int .i64 y.o] 81) := ⟨_, rfl⟩
    rw [← hW]
    have XW : Hd (Ext w W) := by rw [hW]; exact (unhide X).trans (Ext.alloc _ _)
    obtain ⟨T, h1, hT⟩ := unhide HT W (unhide XW)
    have hT0 := hT
    obtain ⟨a, cap, rfl, h3, h4, -⟩ := hT
    rw [← hL] at hT0
    have SLN := hide (fun W' (x : Gr g W W') => (Sl.tail hL hT0).on x)
    have H1 := hide h1
    have FW := (unhide F4).on (by rw [hW]; exact Ext.alloc _ _ : Ext w1 W)
    have r0 := FW.c0
    have r1 := FW.c1
    have r2 := FW.c2
    have r3 := FW.c3
    have rz := FW.fz
    have c0 : W.cell? ⟨g, 0, none⟩ = some (.slice a L cap) := by rw [hL]; exact rowC h1 0 rfl
    have hcap : L ≤ cap := by rw [hL]; exact h3
    have hm0 : 0 ≤ min 1 (L : Int) := by omega
    have hm1 : min 1 (L : Int) ≤ L := by omega
    have zf := rowF h1
    have b0 : W.cell? ⟨w1.heap.size, 0, none⟩ = some (.int .i64 y.k) := by rw [hW]; exact cell_box _ _ _ 0 rfl
    have b1 : W.cell? ⟨w1.heap.size, 1, none⟩ = some (.string y.t) := by rw [hW]; exact cell_box _ _ _ 1 rfl
    have b2 : W.cell? ⟨w1.heap.size, 2, none⟩ = some (.int .i64 y.n) := by rw [hW]; exact cell_box _ _ _ 2 rfl
    have b3 : W.cell? ⟨w1.heap.size, 3, none⟩ = some (.int .i64 y.o) := by rw [hW]; exact cell_box _ _ _ 3 rfl
    have gx : ¬ w1.heap.size = g := by omega
    have gy : ¬ w.heap.size = g := by omega
    clear h1 hW h3 hL hT0 FW
    go_region
    refine gen_world (F := fun W2 => Exit.then _ _ _ _ (World.drew W2)) ?_
    intro W2 hW2
    have q0 : W2.cell? ⟨w.heap.size, 0, none⟩ = some (.int .i64 0) := by rw [hW2, World.cell?_setCell_other _ _ _ _ (by simp [gy])]; exact r0
    have q1 : W2.cell? ⟨w.heap.size, 1, none⟩ = some (.string ⟨#[]⟩) := by rw [hW2, World.cell?_setCell_other _ _ _ _ (by simp [gy])]; exact r1
    have q2 : W2.cell? ⟨w.heap.size, 2, none⟩ = some (.int .i64 0) := by rw [hW2, World.cell?_setCell_other _ _ _ _ (by simp [gy])]; exact r2
    have q3 : W2.cell? ⟨w.heap.size, 3, none⟩ = some (.int .i64 0) := by rw [hW2, World.cell?_setCell_other _ _ _ _ (by simp [gy])]; exact r3
    have d0 : W2.cell? ⟨w1.heap.size, 0, none⟩ = some (.int .i64 y.k) := by rw [hW2, World.cell?_setCell_other _ _ _ _ (by simp [gx])]; exact b0
    have d1 : W2.cell? ⟨w1.heap.size, 1, none⟩ = some (.string y.t) := by rw [hW2, World.cell?_setCell_other _ _ _ _ (by simp [gx])]; exact b1
    have d2 : W2.cell? ⟨w1.heap.size, 2, none⟩ = some (.int .i64 y.n) := by rw [hW2, World.cell?_setCell_other _ _ _ _ (by simp [gx])]; exact b2
    have d3 : W2.cell? ⟨w1.heap.size, 3, none⟩ = some (.int .i64 y.o) := by rw [hW2, World.cell?_setCell_other _ _ _ _ (by simp [gx])]; exact b3
    have qz : ∀ i, W2.frozen? ⟨w.heap.size, i, none⟩ = false := fun i => by rw [hW2]; simpa using rz i
    have S2 : Hd (St W2 g len ⟨ts.tail, op, pl, er⟩) := by rw [hW2]; exact St.put (unhide H1) (unhide SLN)
    have G2 : Hd (Gr g w W2) := by rw [hW2]; exact (Gr.of (unhide XW)).set (p := ⟨g, 0, none⟩) (Or.inr rfl) _
    clear hW2 r0 r1 r2 r3 rz b0 b1 b2 b3 c0 zf H1 SLN hcap hm0 hm1
    go_wp2
    all_goals
      exact bodyPost_ret (v := tokV y.k y.t y.n y.o) (by simp [results, Tryz.results47, go_sem, q0, q1, q2, q3]) rfl ⟨rfl, ((unhide S2).set4 hg _ _ _ _).drew, ((unhide G2).set4 (Nat.le_refl _) _ _ _ _).drew⟩

theorem takeSign_any (len g : Nat) (st : PS) (s : ByteArray) (w : World) (hS : St w g len st) :
    Calls Tryz.prog 48 #[.pointer (some ⟨g, 0, none⟩), .string s] w fun e w' => e = .returned (.bool (st.takeS s).1) ∧ St w' g len (st.takeS s).2 ∧ Gr g w w' := by
  have HI := hide (isSign_any len g st s w hS)
  have HN := hide (fun W (x : Ext w W) => next_any len g st W (hS.ext x))
  have HS := hide hS
  clear hS
  unfold PS.takeS
  cases hb : st.isS s
  · rw [hb] at HI
    rw [if_neg (by decide)]
    go_enter Tryz.func48, Tryz.ntmps48
    go_wp2_with (go_at_call 49; refine Calls.mono (unhide HI) ?_; rintro e w1 ⟨rfl, hw⟩; have X := hide hw; clear hw)
    go_ret
    exact ⟨rfl, (unhide HS).ext (unhide X), Gr.of (unhide X)⟩
  · rw [hb] at HI
    rw [if_pos rfl]
    go_enter Tryz.func48, Tryz.ntmps48
    go_wp2_with (first
      | (go_at_call 49; refine Calls.mono (unhide HI) ?_; rintro e w1 ⟨rfl, hw⟩; have X := hide hw; clear hw)
      | (go_at_call 47; refine Calls.mono (unhide HN _ (unhide X)) ?_; rintro e w2 ⟨rfl, hs, hw⟩; have S2 := hide hs; have Y := hide ((Gr.of (unhide X)).trans hw); clear hw hs))
    go_ret
    exact ⟨rfl, unhide S2, unhide Y⟩

theorem takeWord_any (len g : Nat) (st : PS) (s : ByteArray) (w : World) (hS : St w g len st) :
    Calls Tryz.prog 44 #[.pointer (some ⟨g, 0, none⟩), .string s] w fun e w' => e = .returned (.bool (st.takeW s).1) ∧ St w' g len (st.takeW s).2 ∧ Gr g w w' := by
  have HI := hide (isWord_p len g st s w hS)
  have HN := hide (fun W (x : Ext w W) => next_any len g st W (hS.ext x))
  have HS := hide hS
  clear hS
  unfold PS.takeW
  cases hb : st.isW s
  · rw [hb] at HI
    rw [if_neg (by decide)]
    go_enter Tryz.func44, Tryz.ntmps44
    go_wp2_with (go_at_call 67; refine Calls.mono (unhide HI) ?_; rintro e w1 ⟨rfl, hw⟩; have X := hide hw; clear hw)
    go_ret
    exact ⟨rfl, (unhide HS).ext (unhide X), Gr.of (unhide X)⟩
  · rw [hb] at HI
    rw [if_pos rfl]
    go_enter Tryz.func44, Tryz.ntmps44
    go_wp2_with (first
      | (go_at_call 67; refine Calls.mono (unhide HI) ?_; rintro e w1 ⟨rfl, hw⟩; have X := hide hw; clear hw)
      | (go_at_call 47; refine Calls.mono (unhide HN _ (unhide X)) ?_; rintro e w2 ⟨rfl, hs, hw⟩; have S2 := hide hs; have Y := hide ((Gr.of (unhide X)).trans hw); clear hw hs))
    go_ret
    exact ⟨rfl, unhide S2, unhide Y⟩

theorem psign_any (len g : Nat) (st : PS) (s : ByteArray) (w : World) (hS : St w g len st) :
    Calls Tryz.prog 29 #[.pointer (some ⟨g, 0, none⟩), .string s] w fun e w' => e = .returned (.tuple #[]) ∧ St w' g len (st.sign len s) ∧ Gr g w w' := by
  have HI := hide (takeSign_any len g st s w hS)
  clear hS
  unfold PS.takeS at HI
  unfold PS.sign
  cases hb : st.isS s
  · rw [hb] at HI
    rw [if_neg (by decide)]
    have HF := hide (fun W (x : St W g len st) => fail_any len g st 10 W x)
    rw [if_neg (by decide)] at HI
    go_enter Tryz.func29, Tryz.ntmps29
    go_wp2_with (first
      | (go_at_call 48; refine Calls.mono (unhide HI) ?_; rintro e w1 ⟨rfl, hs, hw⟩; have S1 := hide hs; have X := hide hw; clear hw hs)
      | (go_at_call 45; refine Calls.mono (unhide HF _ (unhide S1)) ?_; rintro e w2 ⟨rfl, hs, hw⟩; have S2 := hide hs; have Y := hide ((unhide X).trans hw); clear hw hs))
    go_end0
    exact ⟨rfl, unhide S2, unhide Y⟩
  · rw [hb] at HI
    rw [if_pos rfl]
    rw [if_pos rfl] at HI
    go_enter Tryz.func29, Tryz.ntmps29
    go_wp2_with (go_at_call 48; refine Calls.mono (unhide HI) ?_; rintro e w1 ⟨rfl, hs, hw⟩; have S1 := hide hs; have X := hide hw; clear hw hs)
    go_end0
    exact ⟨rfl, unhide S1, unhide X⟩

theorem pword_any (len g : Nat) (st : PS) (s : ByteArray) (w : World) (hS : St w g len st) :
    Calls Tryz.prog 27 #[.pointer (some ⟨g, 0, none⟩), .string s] w fun e w' => e = .returned (.tuple #[]) ∧ St w' g len (st.word len s) ∧ Gr g w w' := by
  have HI := hide (takeWord_any len g st s w hS)
  clear hS
  unfold PS.takeW at HI
  unfold PS.word
  cases hb : st.isW s
  · rw [hb] at HI
    rw [if_neg (by decide)]
    have HF := hide (fun W (x : St W g len st) => fail_any len g st 10 W x)
    rw [if_neg (by decide)] at HI
    go_enter Tryz.func27, Tryz.ntmps27
    go_wp2_with (first
      | (go_at_call 44; refine Calls.mono (unhide HI) ?_; rintro e w1 ⟨rfl, hs, hw⟩; have S1 := hide hs; have X := hide hw; clear hw hs)
      | (go_at_call 45; refine Calls.mono (unhide HF _ (unhide S1)) ?_; rintro e w2 ⟨rfl, hs, hw⟩; have S2 := hide hs; have Y := hide ((unhide X).trans hw); clear hw hs))
    go_end0
    exact ⟨rfl, unhide S2, unhide Y⟩
  · rw [hb] at HI
    rw [if_pos rfl]
    rw [if_pos rfl] at HI
    go_enter Tryz.func27, Tryz.ntmps27
    go_wp2_with (go_at_call 44; refine Calls.mono (unhide HI) ?_; rintro e w1 ⟨rfl, hs, hw⟩; have S1 := hide hs; have X := hide hw; clear hw hs)
    go_end0
    exact ⟨rfl, unhide S1, unhide X⟩

theorem name_p (len g : Nat) (st : PS) (w : World) (hS : St w g len st) :
    Calls Tryz.prog 28 #[.pointer (some ⟨g, 0, none⟩)] w fun e w' => e = .returned (.string (st.name len).1) ∧ St w' g len (st.name len).2 ∧ Gr g w w' := by
  have HA := hide (ahead_any len g st 0 0 rfl w hS)
  have HS := hide hS
  clear hS
  unfold PS.name
  by_cases hk : (hdT st.ts 0).k = 1
  · rw [if_pos hk]
    have k1 : ((hdT st.ts 0).k == 1) = true := by simp [hk]
    have k2 : ((hdT st.ts 0).k != 1) = false := by simp [hk]
    have HN := hide (fun W (x : Ext w W) => next_any len g st W ((unhide HS).ext x))
    generalize hdT st.ts 0 = y at *
    clear hk
    go_enter Tryz.func28, Tryz.ntmps28
    go_wp2_with (first
      | (go_at_call 46; refine Calls.mono (unhide HA) ?_; rintro e w1 ⟨rfl, hw⟩; have X := hide hw; clear hw)
      | (go_at_call 47; refine Calls.mono (unhide HN _ (unhide X)) ?_; rintro e w2 ⟨rfl, hs, hw⟩; have S2 := hide hs; have Y := hide ((Gr.of (unhide X)).trans hw); clear hw hs))
    go_ret
    exact ⟨rfl, unhide S2, unhide Y⟩
  · rw [if_neg hk]
    have k1 : ((hdT st.ts 0).k == 1) = false := by simp [hk]
    have k2 : ((hdT st.ts 0).k != 1) = true := by simp [hk]
    have HF := hide (fun W (x : Ext w W) => fail_any len g st 10 W ((unhide HS).ext x))
    have HN := hide (fun W (x : St W g len (st.fail len 10)) => next_any len g (st.fail len 10) W x)
    have e1 : (st.fail len 10).ts = [] := by unfold PS.fail; split <;> rfl
    have e2 : (st.fail len 10).next = st.fail len 10 := by unfold PS.next PS.fail; split <;> rfl
    have e3 : hdT (st.fail len 10).ts 0 = tkZ := by rw [e1]; rfl
    rw [e2, e3] at HN
    generalize hdT st.ts 0 = y at *
    clear hk e1 e2 e3
    go_enter Tryz.func28, Tryz.ntmps28
    go_wp2_with (first
      | (go_at_call 46; refine Calls.mono (unhide HA) ?_; rintro e w1 ⟨rfl, hw⟩; have X := hide hw; clear hw)
      | (go_at_call 45; refine Calls.mono (unhide HF _ (unhide X)) ?_; rintro e w2 ⟨rfl, hs, hw⟩; have S2 := hide hs; have Y := hide ((Gr.of (unhide X)).trans hw); clear hw hs)
      | (go_at_call 47; refine Calls.mono (unhide HN _ (unhide S2)) ?_; rintro e w3 ⟨rfl, hs, hw⟩; have S3 := hide hs; have Z := hide ((unhide Y).trans hw); clear hw hs))
    go_ret
    exact ⟨rfl, unhide S3, unhide Z⟩

theorem enter_p (len g : Nat) (st : PS) (w : World) (hS : St w g len st) :
    Calls Tryz.prog 50 #[.pointer (some ⟨g, 0, none⟩)] w fun e w' => e = .returned (.tuple #[]) ∧ St w' g len (st.enter len) ∧ Gr g w w' := by
  have HF := hide (fun W (x : St W g len st.up) => fail_any len g st.up 21 W x)
  obtain ⟨T, h1, hT⟩ := hS.ex
  have c2 : w.cell? ⟨g, 2, none⟩ = some (.int .i64 st.op) := rowC h1 2 rfl
  have zf := rowF h1
  have SU : Hd (St (w.setCell ⟨g, 2, none⟩ (.int .i64 (wrap64 (st.op + 1)))) g len st.up) := hS.putOp _
  have GU : Hd (Gr g w (w.setCell ⟨g, 2, none⟩ (.int .i64 (wrap64 (st.op + 1))))) := (Gr.refl g w).set (p := ⟨g, 2, none⟩) (Or.inr rfl) _
  unfold PS.enter
  clear hS h1 hT
  by_cases h : 24 < wrap64 (st.op + 1)
  · rw [if_pos h]
    go_enter Tryz.func50, Tryz.ntmps50
    go_wp2_with (go_at_call 45; refine Calls.mono (unhide HF _ (unhide SU)) ?_; rintro e w2 ⟨rfl, hs, hw⟩; have S2 := hide hs; have Y := hide ((unhide GU).trans hw); clear hw hs)
    go_end0
    exact ⟨rfl, unhide S2, unhide Y⟩
  · rw [if_neg h]
    go_enter Tryz.func50, Tryz.ntmps50
    go_wp2_with fail
    go_end0
    exact ⟨rfl, unhide SU, unhide GU⟩

/-- Leaving, as a deferred call. -/
theorem leave_p (len g : Nat) (st : PS) (u : FrameMode) (w : World) (hS : St w g len st) :
    CallsD Tryz.prog 51 #[.pointer (some ⟨g, 0, none⟩)] u w fun e u' w' => u' = u ∧ (e = .returned (.tuple #[]) ∧ St w' g len st.leave ∧ Gr g w w') := by
  obtain ⟨T, h1, hT⟩ := hS.ex
  have c2 : w.cell? ⟨g, 2, none⟩ = some (.int .i64 st.op) := rowC h1 2 rfl
  have zf := rowF h1
  have SU : Hd (St (w.setCell ⟨g, 2, none⟩ (.int .i64 (wrap64 (st.op - 1)))) g len st.leave) := hS.putOp _
  have GU : Hd (Gr g w (w.setCell ⟨g, 2, none⟩ (.int .i64 (wrap64 (st.op - 1))))) := (Gr.refl g w).set (p := ⟨g, 2, none⟩) (Or.inr rfl) _
  clear hS h1 hT
  go_enter_d Tryz.func51, Tryz.ntmps51
  go_wp2
  go_end0
  exact ⟨rfl, unhide SU, unhide GU⟩

end Go.Proofs.YtjeledllejlpcaaGreatDoor

namespace Go.Proofs.YtjeledllejlpcaaGreatDoor
open Go.RowKit

def oprC (o : Opr) : List Value := [.string o.s, .int .i64 o.lv, .int .i64 o.k, .int .i64 o.o]
abbrev oprV (o : Opr) : Value := .agg #[.string o.s, .int .i64 o.lv, .int .i64 o.k, .int .i64 o.o]
def oprZ : Opr := ⟨emptyB, 0, 0, 0⟩
def opTab : List Value := oprs.flatMap oprC

/-- The table of operators is as the program's text lays it. -/
def Opx (w : World) : Prop := w.rangeAt 4 0 opTab
theorem Opx.ext {w w' : World} (h : Opx w) (e : Ext w w') : Opx w' := fun j v hv => e.cell (h j v hv)

theorem opx_load {w : World} (h : Opx w) : (Instr.loadAt 140 (.pointer (some ⟨4, 0, none⟩))).run Tryz.prog w = .ok (.agg opTab.toArray) w :=
  run_loadAt_mid w _ 0 _ opTab _ h Tryz.underlying140 rfl (by kernel_rfl)

theorem opx_at (j : Nat) (x : Opr) (h : oprs[j]? = some x) (W : World) : (Instr.index 140 (.agg opTab.toArray) (.int .i64 (j : Int))).run Tryz.prog W = .ok (oprV x) W := by
  match j, h with
  | 0, h => obtain rfl := Option.some.inj h; rfl
  | 1, h => obtain rfl := Option.some.inj h; rfl
  | 2, h => obtain rfl := Option.some.inj h; rfl
  | 3, h => obtain rfl := Option.some.inj h; rfl
  | 4, h => obtain rfl := Option.some.inj h; rfl
  | 5, h => obtain rfl := Option.some.inj h; rfl
  | 6, h => obtain rfl := Option.some.inj h; rfl
  | 7, h => obtain rfl := Option.some.inj h; rfl
  | 8, h => obtain rfl := Option.some.inj h; rfl
  | 9, h => obtain rfl := Option.some.inj h; rfl
  | 10, h => obtain rfl := Option.some.inj h; rfl
  | 11, h => obtain rfl := Option.some.inj h; rfl
  | 12, h => obtain rfl := Option.some.inj h; rfl
  | 13, h => obtain rfl := Option.some.inj h; rfl
  | 14, h => obtain rfl := Option.some.inj h; rfl
  | 15, h => obtain rfl := Option.some.inj h; rfl
  | j + 16, h => simp [oprs] at h

abbrev oprO (o : Opr) : Obj := .cells #[.string o.s, .int .i64 o.lv, .int .i64 o.k, .int .i64 o.o] 119 (0, 0)

theorem find_step {lv : Int} {s : ByteArray} {j : Nat} {x : Opr} (h : oprs[j]? = some x) (hn : ∀ y ∈ oprs.take j, opHit lv s y = false) : if opHit lv s x then atLv lv s = some x else ∀ y ∈ oprs.take (j + 1), opHit lv s y = false := by
  obtain ⟨hj, hx0⟩ := List.getElem?_eq_some_iff.1 h
  have hd : oprs = oprs.take j ++ x :: oprs.drop (j + 1) := by
    rw [← hx0, ← List.drop_eq_getElem_cons hj, List.take_append_drop]
  split
  · rename_i hx
    unfold atLv
    rw [hd, List.find?_append, List.find?_eq_none.2 (fun y hy => by rw [hn y hy]; decide)]
    simp [hx]
  · rename_i hx
    intro y hy
    rw [List.take_succ_eq_append_getElem hj, hx0] at hy
    rcases List.mem_append.1 hy with hy | hy
    · exact hn y hy
    · rw [List.mem_singleton.1 hy]; simpa using hx

theorem find_none {lv : Int} {s : ByteArray} (hn : ∀ y ∈ oprs.take 16, opHit lv s y = false) : atLv lv s = none :=
  List.find?_eq_none.2 (fun y hy => by rw [hn y hy]; decide)

/-- The four cells of an operator's variable, stored anew. -/
abbrev setO (w : World) (g : Nat) (o : Opr) : World :=
  (((w.setCell ⟨g, 0, none⟩ (.string o.s)).setCell ⟨g, 1, none⟩ (.int .i64 o.lv)).setCell ⟨g, 2, none⟩ (.int .i64 o.k)).setCell ⟨g, 3, none⟩ (.int .i64 o.o)
theorem setO_ext {w w' : World} (h : Ext w w') (g : Nat) (hg : w.heap.size ≤ g) (o : Opr) : Ext w (setO w' g o) :=
  (((h.set (p := ⟨g, 0, none⟩) hg _).set (p := ⟨g, 1, none⟩) hg _).set (p := ⟨g, 2, none⟩) hg _).set (p := ⟨g, 3, none⟩) hg _
theorem setO_row {w : World} {g : Nat} {o : Opr} (h : w.heap[g]? = some (oprO o)) (x : Opr) : (setO w g x).heap[g]? = some (oprO x) :=
  row_set (row_set (row_set (row_set h 0 _) 1 _) 2 _) 3 _
theorem setO_past {w : World} {g : Nat} {o : Opr} (h : w.heap[g]? = some (oprO o)) (x : Opr) (i : Nat) (v : Value) (hi : (oprC x)[i]? = some v) (p : Obj) : ((setO w g x).alloc p).cell? ⟨g, i, none⟩ = some v :=
  rowC ((Ext.alloc _ p).row (setO_row h x)) i (by simpa [oprC] using hi)
theorem St.setO {w : World} {g len : Nat} {st : PS} (h : St w g len st) {b : Nat} (hb : g < b) (o : Opr) : St (setO w b o) g len st :=
  (((h.set hb _ _).set hb _ _).set hb _ _).set hb _ _
theorem Gr.setO {g : Nat} {a w : World} (h : Gr g a w) {b : Nat} (hb : a.heap.size ≤ b) (o : Opr) : Gr g a (setO w b o) :=
  (((h.set (Or.inl hb) _).set (Or.inl hb) _).set (Or.inl hb) _).set (Or.inl hb) _

set_option maxHeartbeats 2000000 in
theorem atLevel_any (lv : Int) (s : ByteArray) (w : World) (hO : Opx w) :
    Calls Tryz.prog 99 #[.int .i64 lv, .string s] w fun e w' => e = .returned (.tuple #[oprV ((atLv lv s).getD oprZ), .bool (atLv lv s).isSome]) ∧ Ext w w' := by
  have HL := hide (hO.ext (Ext.alloc w (.cells #[.string ⟨#[]⟩, .int .i64 0, .int .i64 0, .int .i64 0] 119)))
  have HX := hide opx_at
  have HZ : Hd ((Tryz.prog.info? 140).map (·.size) = some opTab.length) := by unfold Hd; kernel_rfl
  unfold Opx at HL
  generalize opTab = tab at HL HX HZ
  clear hO
  go_enter Tryz.func99, Tryz.ntmps99
  go_wp2_with (refine wpList_load_mid rfl 140 (.global 4) rfl 4 0 rfl tab _ (unhide HL) Tryz.underlying140 rfl (unhide HZ) ?_)
  go_loopw [9] (fun i wr => ∃ j : Nat, i = .int .i64 j ∧ j ≤ 16 ∧ Hd (∀ y ∈ oprs.take j, opHit lv s y = false) ∧ Hd (Ext w wr) ∧ Hd (wr.heap[w.heap.size]? = some (oprO oprZ))) (fun i _ => 16 - (intOf i).toNat)
  case atStart => exact ⟨0, rfl, by omega, fun y hy => by simp at hy, Ext.alloc _ _, Go.heap_alloc_new w _⟩
  case round =>
    obtain ⟨j, rfl, hj, hN, hE, hR⟩ := hrel
    by_cases hlt : j < 16
    · obtain ⟨x, hx⟩ : ∃ x, oprs[j]? = some x := ⟨_, List.getElem?_eq_getElem hlt⟩
      have hix := unhide HX j x hx
      have hst := find_step hx (unhide hN)
      cases h1 : (x.lv == lv)
      · have hh : opHit lv s x = false := by unfold opHit; rw [h1]; rfl
        rw [hh, if_neg (by decide)] at hst
        have HN2 := hide hst
        clear hst hh hx
        go_wp2
        go_roundw
        case rel => exact ⟨j + 1, by go_num, by omega, HN2, (unhide hE).trans (Ext.alloc _ _), (Ext.alloc _ _).row (unhide hR)⟩
        case measure => simp [intOf]; omega
      · cases h2 : (x.s.toList == s.toList)
        · have hh : opHit lv s x = false := by unfold opHit; rw [h1, h2]; rfl
          rw [hh, if_neg (by decide)] at hst
          have HN2 := hide hst
          clear hst hh hx
          go_wp2
          go_roundw
          case rel => exact ⟨j + 1, by go_num, by omega, HN2, (unhide hE).trans (Ext.alloc _ _), (Ext.alloc _ _).row (unhide hR)⟩
          case measure => simp [intOf]; omega
        · have hh : opHit lv s x = true := by unfold opHit; rw [h1, h2]; rfl
          rw [hh, if_pos rfl] at hst
          have HST := hide hst
          have r0 := rowC (unhide hR) 0 rfl
          have r1 := rowC (unhide hR) 1 rfl
          have r2 := rowC (unhide hR) 2 rfl
          have r3 := rowC (unhide hR) 3 rfl
          have rz := rowF (unhide hR)
          have hlt2 : w.heap.size < wr.heap.size := (Array.getElem?_eq_some_iff.1 (unhide hR)).1
          have q0 := setO_past (unhide hR) x 0 _ rfl
          have q1 := setO_past (unhide hR) x 1 _ rfl
          have q2 := setO_past (unhide hR) x 2 _ rfl
          have q3 := setO_past (unhide hR) x 3 _ rfl
          clear hst hh hx
          go_wp2
          exact bodyPost_ret (v := .tuple #[oprV x, .bool true]) (by simp [results, Tryz.results99, go_sem, q0, q1, q2, q3]) rfl ⟨by rw [unhide HST]; rfl, (setO_ext (unhide hE) _ (Nat.le_refl _) _).trans (Ext.alloc _ _)⟩
    · have : j = 16 := by omega
      subst this
      have HST := hide (find_none (unhide hN))
      have r0 := rowC (unhide hR) 0 rfl
      have r1 := rowC (unhide hR) 1 rfl
      have r2 := rowC (unhide hR) 2 rfl
      have r3 := rowC (unhide hR) 3 rfl
      have rz := rowF (unhide hR)
      go_wp2
      exact bodyPost_ret (v := .tuple #[oprV oprZ, .bool false]) (by simp [results, Tryz.results99, go_sem, r0, r1, r2, r3, oprZ]) rfl ⟨by rw [unhide HST]; rfl, setO_ext (unhide hE) _ (Nat.le_refl _) oprZ⟩

set_option maxHeartbeats 1000000 in
theorem oper_any (len g : Nat) (st : PS) (lv : Int) (w : World) (hO : Opx w) (hS : St w g len st) :
    Calls Tryz.prog 93 #[.pointer (some ⟨g, 0, none⟩), .int .i64 lv] w fun e w' => e = .returned (.tuple #[oprV ((st.oper lv).getD oprZ), .bool (st.oper lv).isSome]) ∧ Ext w w' := by
  have HA := hide (fun W (x : Ext w W) => ahead_any len g st 0 0 rfl W (hS.ext x))
  have HL := hide (fun s W (x : Ext w W) => atLevel_any lv s W (hO.ext x))
  clear hS hO
  unfold PS.oper
  by_cases hk : (hdT st.ts 0).k = 6
  · rw [if_pos hk]
    have k1 : ((hdT st.ts 0).k == 6) = true := by simp [hk]
    have k2 : ((hdT st.ts 0).k != 6) = false := by simp [hk]
    generalize hdT st.ts 0 = y at *
    replace HL := hide (fun W x => unhide HL y.t W x)
    generalize (atLv lv y.t).getD oprZ = z at HL ⊢
    generalize (atLv lv y.t).isSome = b at HL ⊢
    clear hk
    go_enter Tryz.func93, Tryz.ntmps93
    go_wp2_with (first
      | (go_at_call 46; refine Calls.mono (unhide HA _ (Ext.alloc _ _)) ?_; rintro e w1 ⟨rfl, hw⟩; have RB := hide (hw.row (Go.heap_alloc_new w _)); have X := hide ((Ext.alloc _ _).trans hw); clear hw)
      | (go_at_call 99; refine Calls.mono (unhide HL _ ((unhide X).trans (Ext.alloc _ _))) ?_; rintro e w2 ⟨rfl, hw⟩; have RC := ((Ext.alloc _ _).trans hw).row (unhide RB); have r0 := rowC RC 0 rfl; have r1 := rowC RC 1 rfl; have r2 := rowC RC 2 rfl; have r3 := rowC RC 3 rfl; have rz := rowF RC; clear RC; have Y := hide (((unhide X).trans (Ext.alloc _ _)).trans hw); clear hw))
    exact bodyPost_ret (v := .tuple #[oprV z, .bool b]) (by simp [results, Tryz.results93, go_sem, r0, r1, r2, r3]) rfl ⟨rfl, setO_ext (unhide Y) _ (Nat.le_refl _) z⟩
  · rw [if_neg hk]
    have k1 : ((hdT st.ts 0).k == 6) = false := by simp [hk]
    have k2 : ((hdT st.ts 0).k != 6) = true := by simp [hk]
    generalize hdT st.ts 0 = y at *
    clear hk HL
    go_enter Tryz.func93, Tryz.ntmps93
    go_wp2_with (go_at_call 46; refine Calls.mono (unhide HA _ (Ext.alloc _ _)) ?_; rintro e w1 ⟨rfl, hw⟩; have RB := hw.row (Go.heap_alloc_new w _); have r0 := rowC RB 0 rfl; have r1 := rowC RB 1 rfl; have r2 := rowC RB 2 rfl; have r3 := rowC RB 3 rfl; have q0 : ∀ p, (World.alloc ((((w1.setCell ⟨w.heap.size, 0, none⟩ (.string ⟨#[]⟩)).setCell ⟨w.heap.size, 1, none⟩ (.int .i64 0)).setCell ⟨w.heap.size, 2, none⟩ (.int .i64 0)).setCell ⟨w.heap.size, 3, none⟩ (.int .i64 0)) p).cell? ⟨w.heap.size, 0, none⟩ = some (.string ⟨#[]⟩) := setO_past (o := oprZ) RB oprZ 0 _ rfl; have q1 : ∀ p, (World.alloc ((((w1.setCell ⟨w.heap.size, 0, none⟩ (.string ⟨#[]⟩)).setCell ⟨w.heap.size, 1, none⟩ (.int .i64 0)).setCell ⟨w.heap.size, 2, none⟩ (.int .i64 0)).setCell ⟨w.heap.size, 3, none⟩ (.int .i64 0)) p).cell? ⟨w.heap.size, 1, none⟩ = some (.int .i64 0) := setO_past (o := oprZ) RB oprZ 1 _ rfl; have q2 : ∀ p, (World.alloc ((((w1.setCell ⟨w.heap.size, 0, none⟩ (.string ⟨#[]⟩)).setCell ⟨w.heap.size, 1, none⟩ (.int .i64 0)).setCell ⟨w.heap.size, 2, none⟩ (.int .i64 0)).setCell ⟨w.heap.size, 3, none⟩ (.int .i64 0)) p).cell? ⟨w.heap.size, 2, none⟩ = some (.int .i64 0) := setO_past (o := oprZ) RB oprZ 2 _ rfl; have q3 : ∀ p, (World.alloc ((((w1.setCell ⟨w.heap.size, 0, none⟩ (.string ⟨#[]⟩)).setCell ⟨w.heap.size, 1, none⟩ (.int .i64 0)).setCell ⟨w.heap.size, 2, none⟩ (.int .i64 0)).setCell ⟨w.heap.size, 3, none⟩ (.int .i64 0)) p).cell? ⟨w.heap.size, 3, none⟩ = some (.int .i64 0) := setO_past (o := oprZ) RB oprZ 3 _ rfl; have rz := rowF RB; have hlt : w.heap.size < w1.heap.size := (Array.getElem?_eq_some_iff.1 RB).1; clear RB; have X := hide ((Ext.alloc _ _).trans hw); clear hw)
    exact bodyPost_ret (v := .tuple #[oprV oprZ, .bool false]) (by simp [results, Tryz.results93, go_sem, q0, q1, q2, q3, oprZ]) rfl ⟨rfl, (setO_ext (unhide X) _ (Nat.le_refl _) oprZ).trans (Ext.alloc _ _)⟩

set_option maxHeartbeats 1000000 in
theorem takeOp_any (len g : Nat) (st : PS) (lv : Int) (w : World) (hO : Opx w) (hS : St w g len st) :
    Calls Tryz.prog 84 #[.pointer (some ⟨g, 0, none⟩), .int .i64 lv] w fun e w' => e = .returned (.tuple #[oprV ((st.takeO lv).1.getD oprZ), .bool (st.takeO lv).1.isSome]) ∧ St w' g len (st.takeO lv).2 ∧ Gr g w w' := by
  have hg : g < w.heap.size := hS.lt
  have HL := hide (fun W (x : Ext w W) => oper_any len g st lv W (hO.ext x) (hS.ext x))
  have HN := hide (fun W (x : Ext w W) => next_any len g st W (hS.ext x))
  have HS := hide hS
  clear hS hO
  unfold PS.takeO
  cases ho : st.oper lv with
  | none =>
    rw [ho] at HL
    simp only [Option.getD_none, Option.isSome_none] at HL ⊢
    clear ho HN
    go_enter Tryz.func84, Tryz.ntmps84
    go_wp2_with (go_at_call 93; refine Calls.mono (unhide HL _ (Ext.alloc _ _)) ?_; rintro e w1 ⟨rfl, hw⟩; have RB := hw.row (Go.heap_alloc_new w _); have r0 := rowC RB 0 rfl; have r1 := rowC RB 1 rfl; have r2 := rowC RB 2 rfl; have r3 := rowC RB 3 rfl; have q0 := setO_past (o := oprZ) RB oprZ 0 _ rfl; have q1 := setO_past (o := oprZ) RB oprZ 1 _ rfl; have q2 := setO_past (o := oprZ) RB oprZ 2 _ rfl; have q3 := setO_past (o := oprZ) RB oprZ 3 _ rfl; have rz := rowF RB; have hlt : w.heap.size < w1.heap.size := (Array.getElem?_eq_some_iff.1 RB).1; clear RB; have X := hide ((Ext.alloc _ _).trans hw); clear hw)
    exact bodyPost_ret (v := .tuple #[oprV oprZ, .bool false]) (by simp [results, Tryz.results84, go_sem, q0, q1, q2, q3]) rfl ⟨rfl, (((unhide HS).ext (unhide X)).setO hg oprZ).alloc _, ((Gr.of (unhide X)).setO (Nat.le_refl _) oprZ).alloc _⟩
  | some z =>
    rw [ho] at HL
    simp only [Option.getD_some, Option.isSome_some] at HL ⊢
    clear ho
    go_enter Tryz.func84, Tryz.ntmps84
    go_wp2_with (first
      | (go_at_call 93; refine Calls.mono (unhide HL _ (Ext.alloc _ _)) ?_; rintro e w1 ⟨rfl, hw⟩; have RB := hide (hw.row (Go.heap_alloc_new w _)); have X := hide ((Ext.alloc _ _).trans hw); have hlt : w.heap.size < w1.heap.size := (Array.getElem?_eq_some_iff.1 (unhide RB)).1; clear hw)
      | (go_at_call 47; refine Calls.mono (unhide HN _ ((unhide X).trans (Ext.alloc _ _))) ?_; rintro e w2 ⟨rfl, hs, hw⟩; have RC := hw.row ((Ext.alloc _ _).row (unhide RB)) (by omega); have r0 := rowC RC 0 rfl; have r1 := rowC RC 1 rfl; have r2 := rowC RC 2 rfl; have r3 := rowC RC 3 rfl; have rz := rowF RC; have RD := hw.row (Go.heap_alloc_new w1 _) (by omega); have d0 := rowC RD 0 rfl; have d1 := rowC RD 1 rfl; have d2 := rowC RD 2 rfl; have d3 := rowC RD 3 rfl; clear RC RD; have S2 := hide hs; have Y := hide ((Gr.of ((unhide X).trans (Ext.alloc _ _))).trans hw); clear hw hs))
    exact bodyPost_ret (v := .tuple #[oprV z, .bool true]) (by simp [results, Tryz.results84, go_sem, r0, r1, r2, r3]) rfl ⟨rfl, (unhide S2).setO hg z, (unhide Y).setO (Nat.le_refl _) z⟩

end Go.Proofs.YtjeledllejlpcaaGreatDoor
