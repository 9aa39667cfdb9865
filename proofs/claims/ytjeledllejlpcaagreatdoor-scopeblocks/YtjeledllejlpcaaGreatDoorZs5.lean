/- What it is that a world holds a tree; the nodes that operators make; words that stand alone. · What stands in brackets: one expression; several, parted by commas; calls and lists. · Laws of no program: an append that tells where the row lies behind it; a call as a step of a region that draws its order. Rows of trees. · Expressions parted by commas. -/
import Derived.Test.YtjeledllejlpcaaGreatDoorZs4
import Derived.Deep.RegionLawGrows
import Derived.OwnWalk
set_option linter.unusedSimpArgs false
set_option linter.unusedVariables false
set_option maxRecDepth 10000

namespace Go.Proofs.YtjeledllejlpcaaGreatDoor
open Go.RowKit

mutual
/-- The world holds the tree p as the Go value v; the blocks in which its lists lie are F's. -/
def RepN (w : World) (F : Nat → Prop) : PN → Value → Prop
  | .mk k o s n l, v => ∃ (a : Option Addr) (cap : Nat), v = .agg #[.int .i64 k, .int .i64 o, .string s, .int .i64 n, .slice a l.length cap] ∧ l.length ≤ cap ∧ RepNL w F l a
/-- From the address a on the world holds the trees of l, five cells each. -/
def RepNL (w : World) (F : Nat → Prop) : List PN → Option Addr → Prop
  | [], _ => True
  | x :: xs, a => ∃ b off c0 c1 c2 c3 c4, a = some ⟨b, off, none⟩ ∧ F b ∧ RepN w F x (.agg #[c0, c1, c2, c3, c4]) ∧
      w.cell? ⟨b, off, none⟩ = some c0 ∧ w.cell? ⟨b, off + 1, none⟩ = some c1 ∧ w.cell? ⟨b, off + 2, none⟩ = some c2 ∧ w.cell? ⟨b, off + 3, none⟩ = some c3 ∧ w.cell? ⟨b, off + 4, none⟩ = some c4 ∧
      RepNL w F xs (some ⟨b, off + 5, none⟩)
end

mutual
theorem RepN.to {w w' : World} {F F' : Nat → Prop} (h : ∀ b, F b → F' b ∧ w'.heap[b]? = w.heap[b]?) : ∀ (p : PN) (v : Value), RepN w F p v → RepN w' F' p v
  | .mk k o s n l, v, hr => by
    rw [RepN] at hr ⊢
    obtain ⟨a, cap, hv, hb, hl⟩ := hr
    exact ⟨a, cap, hv, hb, RepNL.to h l a hl⟩
theorem RepNL.to {w w' : World} {F F' : Nat → Prop} (h : ∀ b, F b → F' b ∧ w'.heap[b]? = w.heap[b]?) : ∀ (l : List PN) (a : Option Addr), RepNL w F l a → RepNL w' F' l a
  | [], a, _ => by simp [RepNL]
  | x :: xs, a, hr => by
    rw [RepNL] at hr ⊢
    obtain ⟨b, off, c0, c1, c2, c3, c4, rfl, hf, hx, h0, h1, h2, h3, h4, hxs⟩ := hr
    have hc : ∀ o, w'.cell? ⟨b, o, none⟩ = w.cell? ⟨b, o, none⟩ := fun o => World.cell?_of_block (w := w) (h b hf).2
    exact ⟨b, off, c0, c1, c2, c3, c4, rfl, (h b hf).1, RepN.to h x _ hx, by rw [hc]; exact h0, by rw [hc]; exact h1, by rw [hc]; exact h2, by rw [hc]; exact h3, by rw [hc]; exact h4, RepNL.to h xs _ hxs⟩
end

/-- The blocks from base on, below top. -/
def Fr (base top : Nat) : Nat → Prop := fun b => base ≤ b ∧ b < top

theorem RepN.gr {w w' : World} {g base : Nat} {p : PN} {v : Value} (h : RepN w (Fr base w.heap.size) p v) (k : Gr g w w') (hg : g < base) : RepN w' (Fr base w'.heap.size) p v :=
  RepN.to (fun b hb => ⟨⟨hb.1, Nat.lt_of_lt_of_le hb.2 k.size⟩, k.block b hb.2 (by have := hb.1; omega)⟩) p v h
theorem RepN.low {w : World} {base base' : Nat} {p : PN} {v : Value} (h : RepN w (Fr base w.heap.size) p v) (k : base' ≤ base) : RepN w (Fr base' w.heap.size) p v :=
  RepN.to (fun b hb => ⟨⟨Nat.le_trans k hb.1, hb.2⟩, rfl⟩) p v h
theorem repN_leaf (w : World) (F : Nat → Prop) (k o : Int) (s : ByteArray) (n : Int) (a : Option Addr) (cap : Nat) : RepN w F ⟨k, o, s, n, []⟩ (.agg #[.int .i64 k, .int .i64 o, .string s, .int .i64 n, .slice a 0 cap]) := by
  rw [RepN]
  exact ⟨a, cap, rfl, Nat.zero_le _, by simp [RepNL]⟩

theorem Opx.gr {w w' : World} {g : Nat} (h : Opx w) (k : Gr g w w') (hg : 4 < g) : Opx w' := fun j v hv => k.cell (h j v hv) (by omega)

/-- The block g holds a reader that stands so, and the table of operators is there. -/
structure Rs (w : World) (g len : Nat) (st : PS) : Prop where
  st : St w g len st
  op : Opx w
  pos : 4 < g

theorem Rs.go {w w' : World} {g len : Nat} {st st' : PS} (h : Rs w g len st) (k : Gr g w w') (s : St w' g len st') : Rs w' g len st' := ⟨s, h.op.gr k h.pos, h.pos⟩
theorem Rs.ext {w w' : World} {g len : Nat} {st : PS} (h : Rs w g len st) (k : Ext w w') : Rs w' g len st := ⟨h.st.ext k, h.op.ext k, h.pos⟩
theorem Rs.alloc {w : World} {g len : Nat} {st : PS} (h : Rs w g len st) (o : Obj) : Rs (w.alloc o) g len st := h.ext (Ext.alloc _ _)

/-- What a call of one of the reader's functions that read a tree answers. -/
def Tree (g len : Nat) (w : World) (r : PN × PS) (e : Ending) (w' : World) : Prop :=
  ∃ v, e = .returned v ∧ RepN w' (Fr w.heap.size w'.heap.size) r.1 v ∧ St w' g len r.2 ∧ Gr g w w'

abbrev nodV (k o : Int) (s : ByteArray) (n : Int) (l : Value) : Value := .agg #[.int .i64 k, .int .i64 o, .string s, .int .i64 n, l]
abbrev nodO (k o : Int) (s : ByteArray) (n : Int) (l : Value) : Obj := .cells #[.int .i64 k, .int .i64 o, .string s, .int .i64 n, l] 54 (0, 0)
abbrev set5 (w : World) (g : Nat) (k o : Int) (s : ByteArray) (n : Int) (l : Value) : World :=
  ((((w.setCell ⟨g, 0, none⟩ (.int .i64 k)).setCell ⟨g, 1, none⟩ (.int .i64 o)).setCell ⟨g, 2, none⟩ (.string s)).setCell ⟨g, 3, none⟩ (.int .i64 n)).setCell ⟨g, 4, none⟩ l
theorem set5_ext {w w' : World} (h : Ext w w') (g : Nat) (hg : w.heap.size ≤ g) (k o : Int) (s : ByteArray) (n : Int) (l : Value) : Ext w (set5 w' g k o s n l) :=
  ((((h.set (p := ⟨g, 0, none⟩) hg _).set (p := ⟨g, 1, none⟩) hg _).set (p := ⟨g, 2, none⟩) hg _).set (p := ⟨g, 3, none⟩) hg _).set (p := ⟨g, 4, none⟩) hg _
theorem St.set5 {w : World} {g len : Nat} {st : PS} (h : St w g len st) {b : Nat} (hb : g < b) (k o : Int) (s : ByteArray) (n : Int) (l : Value) : St (set5 w b k o s n l) g len st :=
  ((((h.set hb _ _).set hb _ _).set hb _ _).set hb _ _).set hb _ _
theorem Gr.set5 {g : Nat} {a w : World} (h : Gr g a w) {b : Nat} (hb : a.heap.size ≤ b) (k o : Int) (s : ByteArray) (n : Int) (l : Value) : Gr g a (set5 w b k o s n l) :=
  ((((h.set (Or.inl hb) _).set (Or.inl hb) _).set (Or.inl hb) _).set (Or.inl hb) _).set (Or.inl hb) _
theorem set5_row {w : World} {g : Nat} {k0 o0 n0 : Int} {s0 : ByteArray} {l0 : Value} (h : w.heap[g]? = some (nodO k0 o0 s0 n0 l0)) (k o : Int) (s : ByteArray) (n : Int) (l : Value) : (set5 w g k o s n l).heap[g]? = some (nodO k o s n l) :=
  row_set (row_set (row_set (row_set (row_set h 0 _) 1 _) 2 _) 3 _) 4 _
theorem set5_block {w : World} {b : Nat} {x : Nat} (hx : x ≠ b) (k o : Int) (s : ByteArray) (n : Int) (l : Value) : (set5 w b k o s n l).heap[x]? = w.heap[x]? := by
  rw [Below.heap_setCell _ _ _ _ hx, Below.heap_setCell _ _ _ _ hx, Below.heap_setCell _ _ _ _ hx, Below.heap_setCell _ _ _ _ hx, Below.heap_setCell _ _ _ _ hx]
theorem set5_size (w : World) (b : Nat) (k o : Int) (s : ByteArray) (n : Int) (l : Value) : (set5 w b k o s n l).heap.size = w.heap.size := by
  simp [World.setCell]

theorem node_any (o : Opr) (a : Option Addr) (n c : Nat) (w : World) :
    Calls Tryz.prog 85 #[oprV o, .slice a n c] w fun e w' => e = .returned (nodV o.k o.o emptyB 0 (.slice a n c)) ∧ Ext w w' := by
  go_enter Tryz.func85, Tryz.ntmps85
  go_wp2
  exact bodyPost_ret (v := nodV o.k o.o emptyB 0 (.slice a n c)) (by simp [results, Tryz.results85, go_sem]) rfl ⟨rfl, (Ext.alloc _ _).trans (Ext.alloc _ _)⟩

set_option maxHeartbeats 1000000 in
theorem isCall_any (len g : Nat) (st : PS) (w : World) (hS : St w g len st) :
    Calls Tryz.prog 119 #[.pointer (some ⟨g, 0, none⟩)] w fun e w' => e = .returned (.bool st.isCall) ∧ Ext w w' := by
  have HA := hide (fun W (x : Ext w W) => ahead_any len g st 0 0 rfl W (hS.ext x))
  have HB := hide (fun W (x : Ext w W) => ahead_any len g st 1 1 rfl W (hS.ext x))
  unfold PS.isCall isT
  clear hS
  generalize hdT st.ts 0 = y at *
  generalize hdT st.ts 1 = z at *
  cases hk : (y.k == 1)
  · go_enter Tryz.func119, Tryz.ntmps119
    go_wp2_with (go_at_call 46; refine Calls.mono (unhide HA _ (Ext.refl _)) ?_; rintro e w1 ⟨rfl, hw⟩; have X := hide hw; clear hw)
    go_ret
    exact ⟨rfl, unhide X⟩
  · go_enter Tryz.func119, Tryz.ntmps119
    go_wp2_with (first
      | (have G := unhide Y; clear G; go_at_call 69; refine Calls.mono (is_any _ _ _ _ _ _ _) ?_; rintro e w3 ⟨rfl, hw⟩; have Z := hide ((unhide Y).trans hw); clear hw)
      | (have G := unhide X; clear G; go_at_call 46; refine Calls.mono (unhide HB _ (unhide X)) ?_; rintro e w2 ⟨rfl, hw⟩; have Y := hide ((unhide X).trans hw); clear hw)
      | (go_at_call 46; refine Calls.mono (unhide HA _ (Ext.refl _)) ?_; rintro e w1 ⟨rfl, hw⟩; have X := hide hw; clear hw))
    go_ret
    exact ⟨by rw [Bool.true_and, show (⟨#[40]⟩ : ByteArray).toList = [40] by simp]; rfl, unhide Z⟩

/-- The end of a function that reads a tree: the answer's variable, stored anew. -/
theorem tree_end {g len : Nat} {w w2 : World} {st' : PS} {k o n : Int} {s : ByteArray} {a : Option Addr} {cap : Nat} {l : List PN} (hg : g < w.heap.size) (hs : St w2 g len st') (hw : Gr g w w2) (hl : l.length ≤ cap) (hr : RepNL w2 (fun b => w.heap.size < b ∧ b < w2.heap.size) l a) :
    Tree g len w (⟨k, o, s, n, l⟩, st') (.returned (nodV k o s n (.slice a l.length cap))) (set5 w2 w.heap.size k o s n (.slice a l.length cap)) := by
  refine ⟨_, rfl, ?_, hs.set5 hg _ _ _ _ _, hw.set5 (Nat.le_refl _) _ _ _ _ _⟩
  rw [RepN]
  refine ⟨a, cap, rfl, hl, RepNL.to (fun b hb => ⟨⟨by omega, by rw [set5_size]; exact hb.2⟩, set5_block (by omega) _ _ _ _ _⟩) _ _ hr⟩

set_option maxHeartbeats 2000000 in
theorem lit_any (len g : Nat) (st : PS) (w : World) (hS : St w g len st) :
    Calls Tryz.prog 121 #[.pointer (some ⟨g, 0, none⟩)] w (Tree g len w (litP len st)) := by
  have hg : g < w.heap.size := hS.lt
  have HA := hide (fun W (x : Ext w W) => ahead_any len g st 0 0 rfl W (hS.ext x))
  have HN := hide (fun W (x : Ext w W) => next_any len g st W (hS.ext x))
  have HF := hide (fun W (x : Ext w W) => fail_any len g st 10 W (hS.ext x))
  unfold litP
  clear hS
  generalize hdT st.ts 0 = y at *
  by_cases h3 : y.k = 3
  · rw [if_pos h3]
    have k3 : (y.k == 3) = true := by simp [h3]
    clear h3 HF
    go_enter Tryz.func121, Tryz.ntmps121
    go_wp2_with (first
      | (go_at_call 46; refine Calls.mono (unhide HA _ (Ext.alloc _ _)) ?_; rintro e w1 ⟨rfl, hw⟩; have RB := hide (hw.row (Go.heap_alloc_new w _)); have X := hide ((Ext.alloc _ _).trans hw); clear hw)
      | (go_at_call 47; refine Calls.mono (unhide HN _ (unhide X)) ?_; rintro e w2 ⟨rfl, hs, hw⟩; have RC := hw.row (unhide RB) (by omega); have r0 := rowC RC 0 rfl; have r1 := rowC RC 1 rfl; have r2 := rowC RC 2 rfl; have r3 := rowC RC 3 rfl; have r4 := rowC RC 4 rfl; have rz := rowF RC; clear RC; have S2 := hide hs; have Y := hide ((Gr.of (unhide X)).trans hw); clear hw hs))
    exact bodyPost_ret (v := nodV 15 0 emptyB y.n (.slice none 0 0)) (by simp [results, Tryz.results121, go_sem, r0, r1, r2, r3, r4]) rfl (tree_end (l := []) hg (unhide S2) (unhide Y) (Nat.zero_le _) (by simp [RepNL]))
  · rw [if_neg h3]
    have k3 : (y.k == 3) = false := by simp [h3]
    by_cases h4 : y.k = 4
    · rw [if_pos h4]
      have k4 : (y.k == 4) = true := by simp [h4]
      clear h4 HF
      go_enter Tryz.func121, Tryz.ntmps121
      go_wp2_with (first
        | (go_at_call 46; refine Calls.mono (unhide HA _ (Ext.alloc _ _)) ?_; rintro e w1 ⟨rfl, hw⟩; have RB := hide (hw.row (Go.heap_alloc_new w _)); have X := hide ((Ext.alloc _ _).trans hw); clear hw)
        | (go_at_call 47; refine Calls.mono (unhide HN _ (unhide X)) ?_; rintro e w2 ⟨rfl, hs, hw⟩; have RC := hw.row (unhide RB) (by omega); have r0 := rowC RC 0 rfl; have r1 := rowC RC 1 rfl; have r2 := rowC RC 2 rfl; have r3 := rowC RC 3 rfl; have r4 := rowC RC 4 rfl; have rz := rowF RC; clear RC; have S2 := hide hs; have Y := hide ((Gr.of (unhide X)).trans hw); clear hw hs))
      exact bodyPost_ret (v := nodV 16 0 emptyB y.n (.slice none 0 0)) (by simp [results, Tryz.results121, go_sem, r0, r1, r2, r3, r4]) rfl (tree_end (l := []) hg (unhide S2) (unhide Y) (Nat.zero_le _) (by simp [RepNL]))
    · rw [if_neg h4]
      have k4 : (y.k == 4) = false := by simp [h4]
      by_cases h5 : y.k = 5
      · rw [if_pos h5]
        have k5 : (y.k == 5) = true := by simp [h5]
        clear h5 HF
        go_enter Tryz.func121, Tryz.ntmps121
        go_wp2_with (first
          | (go_at_call 46; refine Calls.mono (unhide HA _ (Ext.alloc _ _)) ?_; rintro e w1 ⟨rfl, hw⟩; have RB := hide (hw.row (Go.heap_alloc_new w _)); have X := hide ((Ext.alloc _ _).trans hw); clear hw)
          | (go_at_call 47; refine Calls.mono (unhide HN _ (unhide X)) ?_; rintro e w2 ⟨rfl, hs, hw⟩; have RC := hw.row (unhide RB) (by omega); have r0 := rowC RC 0 rfl; have r1 := rowC RC 1 rfl; have r2 := rowC RC 2 rfl; have r3 := rowC RC 3 rfl; have r4 := rowC RC 4 rfl; have rz := rowF RC; clear RC; have S2 := hide hs; have Y := hide ((Gr.of (unhide X)).trans hw); clear hw hs))
        exact bodyPost_ret (v := nodV 17 0 y.t 0 (.slice none 0 0)) (by simp [results, Tryz.results121, go_sem, r0, r1, r2, r3, r4]) rfl (tree_end (l := []) hg (unhide S2) (unhide Y) (Nat.zero_le _) (by simp [RepNL]))
      · rw [if_neg h5]
        have k5 : (y.k == 5) = false := by simp [h5]
        by_cases h1 : y.k = 1
        · rw [if_pos h1]
          have k1 : (y.k == 1) = true := by simp [h1]
          clear h1 HF
          go_enter Tryz.func121, Tryz.ntmps121
          go_wp2_with (first
            | (go_at_call 46; refine Calls.mono (unhide HA _ (Ext.alloc _ _)) ?_; rintro e w1 ⟨rfl, hw⟩; have RB := hide (hw.row (Go.heap_alloc_new w _)); have X := hide ((Ext.alloc _ _).trans hw); clear hw)
            | (go_at_call 47; refine Calls.mono (unhide HN _ (unhide X)) ?_; rintro e w2 ⟨rfl, hs, hw⟩; have RC := hw.row (unhide RB) (by omega); have r0 := rowC RC 0 rfl; have r1 := rowC RC 1 rfl; have r2 := rowC RC 2 rfl; have r3 := rowC RC 3 rfl; have r4 := rowC RC 4 rfl; have rz := rowF RC; clear RC; have S2 := hide hs; have Y := hide ((Gr.of (unhide X)).trans hw); clear hw hs))
          exact bodyPost_ret (v := nodV 19 0 y.t 0 (.slice none 0 0)) (by simp [results, Tryz.results121, go_sem, r0, r1, r2, r3, r4]) rfl (tree_end (l := []) hg (unhide S2) (unhide Y) (Nat.zero_le _) (by simp [RepNL]))
        · rw [if_neg h1]
          have k1 : (y.k == 1) = false := by simp [h1]
          clear h1 h3 h4 h5 HN
          go_enter Tryz.func121, Tryz.ntmps121
          go_wp2_with (first
            | (go_at_call 46; refine Calls.mono (unhide HA _ (Ext.alloc _ _)) ?_; rintro e w1 ⟨rfl, hw⟩; have RB := hide (hw.row (Go.heap_alloc_new w _)); have X := hide ((Ext.alloc _ _).trans hw); clear hw)
            | (go_at_call 45; refine Calls.mono (unhide HF _ (unhide X)) ?_; rintro e w2 ⟨rfl, hs, hw⟩; have RC := hw.row (unhide RB) (by omega); have r0 := rowC RC 0 rfl; have r1 := rowC RC 1 rfl; have r2 := rowC RC 2 rfl; have r3 := rowC RC 3 rfl; have r4 := rowC RC 4 rfl; have rz := rowF RC; clear RC; have S2 := hide hs; have Y := hide ((Gr.of (unhide X)).trans hw); clear hw hs))
          exact bodyPost_ret (v := nodV 0 0 emptyB 0 (.slice none 0 0)) (by simp [results, Tryz.results121, go_sem, r0, r1, r2, r3, r4]) rfl (tree_end (l := []) hg (unhide S2) (unhide Y) (Nat.zero_le _) (by simp [RepNL]))

end Go.Proofs.YtjeledllejlpcaaGreatDoor

namespace Go.Proofs.YtjeledllejlpcaaGreatDoor
open Go.RowKit

/-- A node's cells as an answer that lies in a variable. -/
theorem res_node {fn : Func} {p : Tmp} (h : fn.results = #[.cell p 54]) (tmps : Array Value) (w : World) (b : Nat) (k o : Int) (s : ByteArray) (n : Int) (l : Value) (hp : tmps.getD p undef = .pointer (some ⟨b, 0, none⟩)) (hg : w.heap[b]? = some (nodO k o s n l)) :
    (results fn tmps).run Tryz.prog w = .ok (nodV k o s n l) w :=
  results_cell_row h tmps w b _ _ _ _ hp hg Tryz.underlying54 rfl (by kernel_rfl)

/-- What a reader of trees answers from where st stands. -/
abbrev ExIs (g len : Nat) (f : FuncId) (r : Rdr) (st : PS) (w : World) : Prop := ∀ W, Gr g w W → Rs W g len st → Calls Tryz.prog f #[.pointer (some ⟨g, 0, none⟩)] W (Tree g len W (r st))

theorem Tree.gr {g len : Nat} {w W w5 : World} {p : PN} {st4 st5 : PS} {v : Value} (h : Tree g len w (p, st4) (.returned v) W) (hg : g < w.heap.size) (k : Gr g W w5) (hs : St w5 g len st5) : Tree g len w (p, st5) (.returned v) w5 := by
  obtain ⟨v', e, hr, _, hw⟩ := h
  injection e with e
  subst e
  exact ⟨_, rfl, hr.gr k hg, hs, hw.trans k⟩
theorem RepNL.gr {w w' : World} {g base low : Nat} {l : List PN} {a : Option Addr} (h : RepNL w (Fr base w.heap.size) l a) (k : Gr g w w') (hg : g < base) (hb : low < base) : RepNL w' (fun b => low < b ∧ b < w'.heap.size) l a :=
  RepNL.to (fun b hb => ⟨⟨by have := hb.1; omega, Nat.lt_of_lt_of_le hb.2 k.size⟩, k.block b hb.2 (by have := hb.1; omega)⟩) l a h

set_option maxHeartbeats 2000000 in
theorem inBr_any (len g : Nat) (ex : Rdr) (st : PS) (c : ByteArray) (w : World) (hR : Rs w g len st) (hex : ExIs g len 73 ex (st.enter len).next w) :
    Calls Tryz.prog 115 #[.pointer (some ⟨g, 0, none⟩), .string c] w (Tree g len w (inBrP len ex c st)) := by
  have hg : g < w.heap.size := hR.st.lt
  unfold inBrP
  have HX := hide hex
  clear hex
  unfold ExIs at HX
  generalize ex (st.enter len).next = q at HX
  obtain ⟨⟨k, o, s, n, l⟩, st3⟩ := q
  have HE := hide (fun W (x : St W g len st) => enter_p len g st W x)
  have HN := hide (fun W (x : St W g len (st.enter len)) => next_any len g (st.enter len) W x)
  have HG := hide (fun W (x : St W g len st3) => psign_any len g st3 c W x)
  have HR := hide hR
  clear hR
  go_enter_defers Tryz.func115, Tryz.ntmps115
  go_wp2_with (first
    | (go_at_call 50; refine Calls.mono (unhide HE _ ((unhide HR).st.alloc _)) ?_; rintro e w1 ⟨rfl, hs, hw⟩; have RB := hide (hw.row (Go.heap_alloc_new w _) (by omega)); have S1 := hide hs; have X1 := hide ((Gr.of (Ext.alloc _ _)).trans hw); clear hw hs)
    | (go_at_call 47; refine Calls.mono (unhide HN _ (unhide S1)) ?_; rintro e w2 ⟨rfl, hs, hw⟩; have RC := hide (hw.row (unhide RB) (by omega)); have S2 := hide hs; have X2 := hide ((unhide X1).trans hw); have hlt2 : w.heap.size < w2.heap.size := (Array.getElem?_eq_some_iff.1 (unhide RC)).1; clear hw hs)
    | (go_at_call 73; refine Calls.mono (unhide HX _ (unhide X2) ((unhide HR).go (unhide X2) (unhide S2))) ?_; rintro e w3 ⟨v, rfl, hr, hs, hw⟩; rw [RepN] at hr; obtain ⟨a, cap, rfl, hcap, hl⟩ := hr; have RD := hide (hw.row (unhide RC) (by omega)); have S3 := hide hs; have L3 := hide hl; have X3 := hide ((unhide X2).trans hw); have hlt3 : w2.heap.size ≤ w3.heap.size := hw.size; clear hw hs hl)
    | (go_at_call 29; refine Calls.mono (unhide HG _ ((unhide S3).alloc _)) ?_; rintro e w4 ⟨rfl, hs, hw⟩; have RE := hide (hw.row ((Ext.alloc _ _).row (unhide RD)) (by omega)); have RF := hw.row (Go.heap_alloc_new w3 _) (by omega); have d0 := rowC RF 0 rfl; have d1 := rowC RF 1 rfl; have d2 := rowC RF 2 rfl; have d3 := rowC RF 3 rfl; have d4 := rowC RF 4 rfl; have r0 := rowC (unhide RE) 0 rfl; have r1 := rowC (unhide RE) 1 rfl; have r2 := rowC (unhide RE) 2 rfl; have r3 := rowC (unhide RE) 3 rfl; have r4 := rowC (unhide RE) 4 rfl; have rz := rowF (unhide RE); have S4 := hide hs; have G4 := hide ((Gr.of (Ext.alloc _ _)).trans hw); have X4 := hide ((unhide X3).trans (unhide G4)); clear hw hs RF))
  have T4 := tree_end hg (unhide S4) (unhide X4) hcap ((unhide L3).gr (unhide G4) (by omega) hlt2) (k := k) (o := o) (n := n) (s := s)
  refine leaves_cons (f := 51) (args := #[.pointer (some ⟨g, 0, none⟩)]) (by simp) (by simp [go_sem]) ?_
  refine (leave_p len g _ .returning _ ((unhide S4).set5 hg _ _ _ _ _)).mono ?_
  rintro e u' w5 ⟨rfl, rfl, hs, hw⟩
  exact ⟨_, res_node rfl _ _ w.heap.size k o s n _ rfl (hw.row (set5_row (unhide RE) _ _ _ _ _) (by omega)), T4.gr hg hw hs⟩

end Go.Proofs.YtjeledllejlpcaaGreatDoor

namespace Go.Proofs.YtjeledllejlpcaaGreatDoor
open Go.RowKit

section
variable {P : Program} {w : World}

/-- An append onto a row of the call's own: it stays where it is, or lies in a block that is new. -/
theorem run_append_where (base : Nat) (t ty e : TypeId) (i : TypeInfo) (z : Value) (size bytes : Nat) (ht : P.underlying t = some (.slice e)) (hi : P.info? e = some i) (hz : i.zero = some z)
    (hsize : i.size = size) (hby : i.bytes = bytes) (hzs : z.cells.size = size) (hsz : 0 < size)
    (ao : Option Addr) (n cap : Nat) (xs : List Value) (hown : w.ownsRow base e size (.slice ao n cap) n xs)
    (a : Addr) (m c : Nat) (news : List Value) (hm : 0 < m) (hl : news.length = m * size) (hnews : ∀ j u, news[j]? = some u → w.cell? (a.add j) = some u) (h1 : ∀ u ∈ news, u.oneCell' = true)
    (h63 : n + m ≤ maxLen) (hbytes : (n + m) * bytes ≤ 140737488355328) (hbase : base ≤ w.heap.size) :
    ∃ g' cap' w', (Builtin.append_ #[t, t] ty #[.slice ao n cap, .slice (some a) m c]).run P w = .ok (.slice (some ⟨g', 0, none⟩) (n + m) cap') w' ∧ w'.ownsRow base e size (.slice (some ⟨g', 0, none⟩) (n + m) cap') (n + m) (xs ++ news) ∧
      w.grownBy w' (Value.slice ao n cap).ownBlock ∧ ((Value.slice ao n cap).ownBlock = some g' ∨ w.heap.size ≤ g') := by
  obtain ⟨v', w', hrun, ho, hg, _⟩ := run_append_own (P := P) w base t ty e i z size bytes ht hi hz hsize hby hzs hsz (.slice ao n cap) n xs hown a m c news hl hnews h1 h63 hbytes hbase
  have hv : ∃ g' cap', v' = .slice (some ⟨g', 0, none⟩) (n + m) cap' := by
    rcases ho.2 with ⟨_, h0⟩ | ⟨g', cap', cur, hv, _⟩
    · omega
    · exact ⟨g', cap', hv⟩
  obtain ⟨g', cap', rfl⟩ := hv
  refine ⟨g', cap', w', hrun, ho, hg, ?_⟩
  rcases hown.2 with ⟨hn, h0⟩ | ⟨g, cap2, cur, hn, hb, hgg, hnc, hcm, hcs, htake⟩
  · injection hn with e1 e2 e3
    subst e1 e2 e3
    obtain ⟨v2, w2, hrun2, ho2, _⟩ := run_append_own (P := P) w w.heap.size t ty e i z size bytes ht hi hz hsize hby hzs hsz (.slice none 0 0) 0 [] (World.ownsRow_nil w _ e size) a m c news hl hnews h1 h63 hbytes (Nat.le_refl _)
    rw [hrun] at hrun2
    injection hrun2 with e1 e2
    subst e1
    have := ho2.lt g' rfl
    exact Or.inr this.1
  · injection hn with e1 e2 e3
    subst e1 e3
    by_cases hr : n + m ≤ cap
    · subst hsize
      have hrun2 := run_append_room (P := P) w t ty e i ht hi g n cap cur hgg a m c news hl hnews h1 hr (by rw [hl, ← Nat.add_mul, hcs]; exact Nat.mul_le_mul_right _ hr)
      rw [hrun] at hrun2
      injection hrun2 with e1 e2
      injection e1 with e1 _ _
      injection e1 with e1
      injection e1 with e1
      subst e1
      exact Or.inl rfl
    · obtain ⟨v2, w2, hrun2, ho2, _⟩ := run_append_arg_grows (P := P) w t ty e i z size bytes ht hi hz hsize hby hzs hsz ⟨g, 0, none⟩ n cap xs hown.1 (hown.cells rfl) a m c news hl hnews (by omega) h63 hbytes
      rw [hrun] at hrun2
      injection hrun2 with e1 e2
      subst e1
      have := ho2.lt g' rfl
      exact Or.inr this.1

/-- The same as one step of a region that draws its order. -/
theorem step_append_where {ops : Array Oper} {o : Oper} {a : Act} {K : Act → World → Prop} {Q : Exit → Act → World → Prop} {E : Prop}
    (hg : o.guard = none) (s x : Operand) (t : TypeId) (hop : o.op = Op.call { callee := Callee.builtin Builtin.append, args := #[s, x], argTypes := #[t, t] })
    (base : Nat) (e : TypeId) (i : TypeInfo) (z : Value) (size bytes : Nat) (ht : P.underlying t = some (.slice e)) (hi : P.info? e = some i) (hz : i.zero = some z)
    (hsize : i.size = size) (hby : i.bytes = bytes) (hzs : z.cells.size = size) (hsz : 0 < size)
    (ao : Option Addr) (n cap : Nat) (xs : List Value) (hs : a.eval s = .slice ao n cap) (hown : w.ownsRow base e size (.slice ao n cap) n xs)
    (ad : Addr) (m c : Nat) (news : List Value) (hx : a.eval x = .slice (some ad) m c) (hm : 0 < m) (hl : news.length = m * size) (hnews : ∀ j u, news[j]? = some u → w.cell? (ad.add j) = some u) (h1 : ∀ u ∈ news, u.oneCell' = true)
    (h63 : n + m ≤ maxLen) (hbytes : (n + m) * bytes ≤ 140737488355328) (hbase : base ≤ w.heap.size)
    (hK : ∀ g' cap' w', w'.ownsRow base e size (.slice (some ⟨g', 0, none⟩) (n + m) cap') (n + m) (xs ++ news) → w.grownBy w' (Value.slice ao n cap).ownBlock → ((Value.slice ao n cap).ownBlock = some g' ∨ w.heap.size ≤ g') → K (a.put o.dst (.slice (some ⟨g', 0, none⟩) (n + m) cap')) w') :
    if Region.wanted o (yielded ops a.tmps) = true then Oper.wp P o a w K Q else E := by
  have hw : Region.wanted o (yielded ops a.tmps) = true := by simp [Region.wanted, hg]
  rw [if_pos hw]
  obtain ⟨g', cap', w', hrun, r1, r2, r3⟩ := run_append_where (P := P) (w := w) base t o.type e i z size bytes ht hi hz hsize hby hzs hsz ao n cap xs hown ad m c news hm hl hnews h1 h63 hbytes hbase
  unfold Oper.wp
  simp [execOp, hop, resolve, invoke, builtin, hs, hx, hrun, Result.andThen]
  exact hK g' cap' w' r1 r2 r3

/-- The same in a list of operations. -/
theorem wpList_append_where {ops : Array Oper} {rest : List Oper} {o : Oper} {a : Act} {Q : Exit → Act → World → Prop} (hgd : o.guard = none) (s x : Operand) (t : TypeId)
    (hop : o.op = .call { callee := .builtin .append, args := #[s, x], argTypes := #[t, t] })
    (base : Nat) (e : TypeId) (i : TypeInfo) (z : Value) (size bytes : Nat) (ht : P.underlying t = some (.slice e)) (hi : P.info? e = some i) (hz : i.zero = some z)
    (hsize : i.size = size) (hby : i.bytes = bytes) (hzs : z.cells.size = size) (hsz : 0 < size)
    (ao : Option Addr) (n cap : Nat) (xs : List Value) (hs : a.eval s = .slice ao n cap) (hown : w.ownsRow base e size (.slice ao n cap) n xs)
    (ad : Addr) (m c : Nat) (news : List Value) (hx : a.eval x = .slice (some ad) m c) (hm : 0 < m) (hl : news.length = m * size) (hnews : ∀ j u, news[j]? = some u → w.cell? (ad.add j) = some u) (h1 : ∀ u ∈ news, u.oneCell' = true)
    (h63 : n + m ≤ maxLen) (hbytes : (n + m) * bytes ≤ 140737488355328) (hbase : base ≤ w.heap.size)
    (h : ∀ g' cap' w', w'.ownsRow base e size (.slice (some ⟨g', 0, none⟩) (n + m) cap') (n + m) (xs ++ news) → w.grownBy w' (Value.slice ao n cap).ownBlock → ((Value.slice ao n cap).ownBlock = some g' ∨ w.heap.size ≤ g') → wpList P ops Q rest (a.put o.dst (.slice (some ⟨g', 0, none⟩) (n + m) cap')) w') : wpList P ops Q (o :: rest) a w := by
  refine wpList_plain hgd fun K hK => ?_
  obtain ⟨g', cap', w', hrun, r1, r2, r3⟩ := run_append_where (P := P) (w := w) base t o.type e i z size bytes ht hi hz hsize hby hzs hsz ao n cap xs hown ad m c news hm hl hnews h1 h63 hbytes hbase
  unfold Oper.wp
  simp [execOp, hop, resolve, invoke, builtin, hs, hx, hrun, Result.andThen]
  exact hK _ _ (h g' cap' w' r1 r2 r3)

/-- A call of a function of one argument as one step of a region that draws its order. -/
theorem step_call_one {ops : Array Oper} {o : Oper} {a : Act} {K : Act → World → Prop} {Q : Exit → Act → World → Prop} {E : Prop}
    (hg : o.guard = none) (f : FuncId) (x : Operand) (t : TypeId) (hop : o.op = Op.call { callee := Callee.value (.func f), args := #[x], argTypes := #[t] })
    (v : Value) (hx : a.eval x = v) (hf : (callFunc f #[v]).run P w = .ok (.enter f #[v]) w) (hK : Calls P f #[v] w fun e w' => ∃ u, e = .returned u ∧ K (a.put o.dst u) w') :
    if Region.wanted o (yielded ops a.tmps) = true then Oper.wp P o a w K Q else E := by
  have hw : Region.wanted o (yielded ops a.tmps) = true := by simp [Region.wanted, hg]
  rw [if_pos hw]
  have he : a.eval (.func f) = .func (.func f) #[] #[] := rfl
  unfold Oper.wp
  have hrun : (execOp a.eval o).run P w = .ok (.enter f #[v]) w := by
    simp [execOp, hop, resolve, invoke, hx, he, Result.andThen, Deferred.ofValue, hf]
  rw [hrun, Oper.upon_enter]
  refine hK.mono ?_
  rintro e w' ⟨u, rfl, h⟩
  exact h
end

/-- The cells of a node, its list's slice as given. -/
abbrev ndC (p : PN) (a : Option Addr) (cap : Nat) : List Value := [.int .i64 p.k, .int .i64 p.o, .string p.s, .int .i64 p.n, .slice a p.l.length cap]

/-- The cells xs hold the trees ps, one behind the other. -/
def RowN (w : World) (F : Nat → Prop) : List PN → List Value → Prop
  | [], xs => xs = []
  | p :: ps, xs => ∃ a cap rest, xs = ndC p a cap ++ rest ∧ p.l.length ≤ cap ∧ RepNL w F p.l a ∧ RowN w F ps rest

theorem RowN.to {w w' : World} {F F' : Nat → Prop} (h : ∀ b, F b → F' b ∧ w'.heap[b]? = w.heap[b]?) : ∀ {ps : List PN} {xs : List Value}, RowN w F ps xs → RowN w' F' ps xs := by
  intro ps
  induction ps with
  | nil => intro xs hx; exact hx
  | cons p ps ih =>
    intro xs hx
    obtain ⟨a, cap, rest, e, hb, hl, hr⟩ := hx
    exact ⟨a, cap, rest, e, hb, RepNL.to h _ _ hl, ih hr⟩

theorem RowN.snoc {w : World} {F : Nat → Prop} {p : PN} {a : Option Addr} {cap : Nat} (hb : p.l.length ≤ cap) (hl : RepNL w F p.l a) :
    ∀ {ps : List PN} {xs : List Value}, RowN w F ps xs → RowN w F (ps ++ [p]) (xs ++ ndC p a cap) := by
  intro ps
  induction ps with
  | nil =>
    intro xs hx
    have : xs = [] := hx
    subst this
    exact ⟨a, cap, [], by simp, hb, hl, rfl⟩
  | cons q ps ih =>
    intro xs hx
    obtain ⟨a', cap', rest, e, hb', hl', hr⟩ := hx
    exact ⟨a', cap', rest ++ _, by rw [e]; simp, hb', hl', ih hr⟩

theorem RowN.repL {w : World} {F : Nat → Prop} {g : Nat} (hF : F g) : ∀ {ps : List PN} {xs : List Value} {off : Nat}, RowN w F ps xs → (∀ j u, xs[j]? = some u → w.cell? ⟨g, off + j, none⟩ = some u) → RepNL w F ps (some ⟨g, off, none⟩) := by
  intro ps
  induction ps with
  | nil => intro xs off _ _; simp [RepNL]
  | cons p ps ih =>
    intro xs off hx hc
    obtain ⟨a, cap, rest, e, hb, hl, hr⟩ := hx
    subst e
    cases p with
    | mk k o s n l =>
    rw [RepNL]
    refine ⟨g, off, _, _, _, _, _, rfl, hF, ?_, by simpa using hc 0 _ rfl, hc 1 _ rfl, hc 2 _ rfl, hc 3 _ rfl, hc 4 _ rfl, ih hr fun j u hu => ?_⟩
    · rw [RepN]; exact ⟨a, cap, rfl, hb, hl⟩
    · have := hc (5 + j) u (by rw [List.getElem?_append_right (by simp)]; simpa using hu)
      rw [Nat.add_assoc]; exact this

theorem infoN : (Tryz.prog.info? 54).map (fun i => (i.zero, i.size, i.bytes)) = some (some (nodV 0 0 emptyB 0 (.slice none 0 0)), 5, 64) := by kernel_rfl

/-- A row of trees of the call's own under way. -/
structure Hold (g : Nat) (w wr : World) (ps : List PN) (ao : Option Addr) (cap : Nat) : Prop where
  gr : Gr g w wr
  own : ∃ xs, wr.ownsRow w.heap.size 54 5 (.slice ao ps.length cap) ps.length xs ∧ RowN wr (fun b => w.heap.size ≤ b ∧ b < wr.heap.size ∧ some b ≠ (Value.slice ao ps.length cap).ownBlock) ps xs

theorem Gr.grown {g : Nat} {w w' : World} (k : Gr g w w') : w.grownBy w' (some g) := ⟨k.os, k.tape, k.output, k.size, fun i hi hne => k.block i hi (fun e => hne (by rw [e]))⟩

theorem own_gr {a b : World} {g base : Nat} {e : TypeId} {size : Nat} {v : Value} {n : Nat} {xs : List Value} (h : a.ownsRow base e size v n xs) (k : Gr g a b) (hg : g < base) : b.ownsRow base e size v n xs :=
  h.kept k.grown (by
    cases hv : v.ownBlock with
    | none => exact Or.inl rfl
    | some x => exact Or.inr (fun e => by have := (h.lt x hv).1; injection e with e; omega))

theorem Hold.start {g : Nat} {w wr : World} (h : Gr g w wr) : Hold g w wr [] none 0 := ⟨h, [], World.ownsRow_nil _ _ _ _, rfl⟩

theorem Hold.on {g : Nat} {w wr w2 : World} {ps : List PN} {ao : Option Addr} {cap : Nat} (h : Hold g w wr ps ao cap) (k : Gr g wr w2) (hg : g < w.heap.size) : Hold g w w2 ps ao cap := by
  obtain ⟨xs, ho, hr⟩ := h.own
  exact ⟨h.gr.trans k, xs, own_gr ho k hg, RowN.to (fun b hb => ⟨⟨hb.1, Nat.lt_of_lt_of_le hb.2.1 k.size, hb.2.2⟩, k.block b hb.2.1 (by have := hb.1; omega)⟩) hr⟩

/-- One tree more, behind the append. -/
theorem Hold.snoc {g : Nat} {w w2 w3 : World} {ps : List PN} {ao : Option Addr} {cap g' cap' : Nat} {p : PN} {a : Option Addr} {c : Nat} {xs : List Value} (hgr : Gr g w w2) (hg : g < w.heap.size)
    (hown : w2.ownsRow w.heap.size 54 5 (.slice ao ps.length cap) ps.length xs)
    (hx : RowN w2 (fun b => w.heap.size ≤ b ∧ b < w2.heap.size ∧ some b ≠ (Value.slice ao ps.length cap).ownBlock) ps xs)
    (ho : w3.ownsRow w.heap.size 54 5 (.slice (some ⟨g', 0, none⟩) (ps.length + 1) cap') (ps.length + 1) (xs ++ ndC p a c))
    (hb : p.l.length ≤ c) (hp : RepNL w2 (fun b => w.heap.size ≤ b ∧ b < w2.heap.size ∧ some b ≠ (Value.slice ao ps.length cap).ownBlock) p.l a)
    (hgw : w2.grownBy w3 (Value.slice ao ps.length cap).ownBlock) (hw : (Value.slice ao ps.length cap).ownBlock = some g' ∨ w2.heap.size ≤ g') :
    Hold g w w3 (ps ++ [p]) (some ⟨g', 0, none⟩) cap' := by
  have hlen : (ps ++ [p]).length = ps.length + 1 := by simp
  have hF : ∀ b, (w.heap.size ≤ b ∧ b < w2.heap.size ∧ some b ≠ (Value.slice ao ps.length cap).ownBlock) →
      (w.heap.size ≤ b ∧ b < w3.heap.size ∧ some b ≠ (Value.slice (some ⟨g', 0, none⟩) (ps ++ [p]).length cap').ownBlock) ∧ w3.heap[b]? = w2.heap[b]? := by
    intro b hb
    refine ⟨⟨hb.1, Nat.lt_of_lt_of_le hb.2.1 hgw.size, ?_⟩, hgw.block b hb.2.1 hb.2.2⟩
    intro e
    simp only [Value.ownBlock, Option.some.injEq] at e
    rcases hw with e2 | e2
    · exact hb.2.2 (by rw [e2, e])
    · omega
  have hne : ∀ k, k < w.heap.size → some k ≠ (Value.slice ao ps.length cap).ownBlock := fun k hk e => by have := (hown.lt k e.symm).1; omega
  refine ⟨⟨hgw.os.trans hgr.os, hgw.tape.trans hgr.tape, hgw.output.trans hgr.output, Nat.le_trans hgr.size hgw.size, fun k hk hk2 => (hgw.block k (Nat.lt_of_lt_of_le hk hgr.size) (hne k hk)).trans (hgr.block k hk hk2)⟩, _, by rw [hlen]; exact ho, RowN.snoc hb (RepNL.to hF _ _ hp) (RowN.to hF hx)⟩

/-- A reader's block and its words are not the row's. -/
theorem St.grown {w w2 w3 : World} {g len : Nat} {st : PS} {v : Value} {n : Nat} {xs : List Value} (h : St w2 g len st) (hg : g < w.heap.size) (hown : w2.ownsRow w.heap.size 54 5 v n xs) (hgw : w2.grownBy w3 v.ownBlock) : St w3 g len st := by
  have hne : ∀ k, k < w.heap.size → some k ≠ v.ownBlock := fun k hk e => by have := (hown.lt k e.symm).1; omega
  obtain ⟨T, h1, a, cap, rfl, h3, h4, h5⟩ := h.ex
  have hl : ∀ b o (u : Value), b ≤ g → w2.cell? ⟨b, o, none⟩ = some u → w3.cell? ⟨b, o, none⟩ = some u := fun b o u hb hc => by
    rw [World.cell?_of_block (w := w2) (hgw.block b (World.block_lt_of_cell? w2 ⟨b, o, none⟩ hc) (hne b (by omega)))]; exact hc
  refine ⟨⟨_, (hgw.block g (Array.getElem?_eq_some_iff.1 h1).1 (hne g hg)).trans h1, a, cap, rfl, h3, h4, ?_⟩⟩
  rcases h5 with h5 | ⟨b, off, rfl, hb, hc⟩
  · exact Or.inl h5
  · exact Or.inr ⟨b, off, rfl, hb, fun j u hu => hl b _ u (by omega) (hc j u hu)⟩

theorem cells_own {w : World} {base : Nat} {e : TypeId} {size n cap g : Nat} {xs : List Value} (h : w.ownsRow base e size (.slice (some ⟨g, 0, none⟩) n cap) n xs) : ∀ j u, xs[j]? = some u → w.cell? ⟨g, 0 + j, none⟩ = some u := by
  intro j u hu
  have := h.cells (g := g) rfl j u hu
  rw [add0] at this
  rw [Nat.zero_add]
  exact this

theorem Hold.done {g : Nat} {w wr : World} {ps : List PN} {ao : Option Addr} {cap : Nat} (h : Hold g w wr ps ao cap) : ps.length ≤ cap ∧ RepNL wr (Fr w.heap.size wr.heap.size) ps ao := by
  obtain ⟨xs, ho, hr⟩ := h.own
  obtain ⟨hlen, ⟨e, h0⟩ | ⟨b, cap2, cur, e, hb, hrow, hc, _⟩⟩ := id ho
  · have : ps = [] := List.length_eq_zero_iff.1 h0
    subst this
    exact ⟨Nat.zero_le _, by simp [RepNL]⟩
  · injection e with e1 e2 e3
    subst e1 e3
    refine ⟨hc, RowN.repL (g := b) ⟨hb, (Array.getElem?_eq_some_iff.1 hrow).1⟩ (RowN.to (fun x hx => ⟨⟨hx.1, hx.2.1⟩, rfl⟩) hr) (cells_own ho)⟩

end Go.Proofs.YtjeledllejlpcaaGreatDoor

namespace Go.Proofs.YtjeledllejlpcaaGreatDoor
open Go.RowKit

/-- What a call that reads several trees answers. -/
def Trees (g len : Nat) (w : World) (r : List PN × PS) (e : Ending) (w' : World) : Prop :=
  ∃ a cap, e = .returned (.slice a r.1.length cap) ∧ r.1.length ≤ cap ∧ RepNL w' (Fr w.heap.size w'.heap.size) r.1 a ∧ St w' g len r.2 ∧ Gr g w w'

theorem takeS_len (st : PS) (s : ByteArray) : (st.takeS s).2.ts.length ≤ st.ts.length ∧ ((st.takeS s).1 = true → st.ts = [] ∨ (st.takeS s).2.ts.length < st.ts.length) := by
  unfold PS.takeS
  split
  · refine ⟨by simp [PS.next], fun _ => ?_⟩
    cases h : st.ts with
    | nil => exact Or.inl rfl
    | cons t r => right; simp [PS.next, h]
  · exact ⟨Nat.le_refl _, fun h => by cases h⟩

theorem isS_ne {st : PS} {s : ByteArray} (h : st.isS s = true) : st.ts ≠ [] := by
  intro e
  unfold PS.isS isT at h
  rw [e] at h
  exact absurd h (by simp [hdT, tkZ])

/-- What holds at the loop's head. -/
structure MoreI (g len : Nat) (ex : Rdr) (w wr : World) (F : List PN × PS) (stc : PS) (k : Nat) (acc : List PN) (ao : Option Addr) (cap : Nat) : Prop where
  eq : F = moreP len ex k acc stc
  fuel : stc.ts.length < k
  bnd : acc.length + stc.ts.length ≤ 100001
  rs : Rs wr g len stc
  hold : Hold g w wr acc ao cap

theorem one_cells (k o : Int) (s : ByteArray) (n : Int) (a : Option Addr) (L cap : Nat) : ∀ u ∈ ([.int .i64 k, .int .i64 o, .string s, .int .i64 n, .slice a L cap] : List Value), u.oneCell' = true := by
  intro u hu
  simp at hu
  rcases hu with rfl | rfl | rfl | rfl | rfl <;> rfl

/-- Behind an append of the tree that was read last. -/
theorem more_snoc {g len : Nat} {w wr w2 w3 : World} {acc : List PN} {ao : Option Addr} {cap g' cap' : Nat} {k o n : Int} {s : ByteArray} {l : List PN} {a : Option Addr} {c : Nat} {xs : List Value} {st2 : PS}
    (hg : g < w.heap.size) (hH : Hold g w wr acc ao cap) (hW : Gr g wr w2) (hS : St w2 g len st2) (hc : l.length ≤ c) (hl : RepNL w2 (Fr wr.heap.size w2.heap.size) l a) (ob : Obj)
    (hx : (w2.alloc ob).ownsRow w.heap.size 54 5 (.slice ao acc.length cap) acc.length xs ∧ RowN (w2.alloc ob) (fun b => w.heap.size ≤ b ∧ b < (w2.alloc ob).heap.size ∧ some b ≠ (Value.slice ao acc.length cap).ownBlock) acc xs)
    (ho : w3.ownsRow w.heap.size 54 5 (.slice (some ⟨g', 0, none⟩) (acc.length + 1) cap') (acc.length + 1) (xs ++ [.int .i64 k, .int .i64 o, .string s, .int .i64 n, .slice a l.length c]))
    (hgw : (w2.alloc ob).grownBy w3 (Value.slice ao acc.length cap).ownBlock) (hw0 : (Value.slice ao acc.length cap).ownBlock = some g' ∨ w2.heap.size + 1 ≤ g') :
    Hold g w w3 (acc ++ [⟨k, o, s, n, l⟩]) (some ⟨g', 0, none⟩) cap' ∧ St w3 g len st2 := by
  have hw : (Value.slice ao acc.length cap).ownBlock = some g' ∨ (w2.alloc ob).heap.size ≤ g' := by rw [size_alloc]; exact hw0
  have hgr : Gr g w (w2.alloc ob) := (hH.gr.trans hW).alloc ob
  refine ⟨Hold.snoc (p := ⟨k, o, s, n, l⟩) hgr hg hx.1 hx.2 ho hc (RepNL.to (fun b hb => ⟨⟨?fa, ?fb, ?fc⟩, ?fd⟩) _ _ hl) hgw hw, (hS.alloc ob).grown hg hx.1 hgw⟩
  case fa => have := hH.gr.size; have := hb.1; omega
  case fb => have := hb.2; simp; omega
  case fc =>
    intro e
    obtain ⟨ys, hy, _⟩ := hH.own
    have := (hy.lt b e.symm).2
    have := hb.1
    omega
  case fd => exact (Ext.alloc w2 ob).block b hb.2

theorem held_on {g : Nat} {w wr w2 : World} {acc : List PN} {v : Value} {n : Nat} {xs : List Value} (hx : wr.ownsRow w.heap.size 54 5 v n xs ∧ RowN wr (fun b => w.heap.size ≤ b ∧ b < wr.heap.size ∧ some b ≠ v.ownBlock) acc xs) (x : Gr g wr w2) (hg : g < w.heap.size) :
    w2.ownsRow w.heap.size 54 5 v n xs ∧ RowN w2 (fun b => w.heap.size ≤ b ∧ b < w2.heap.size ∧ some b ≠ v.ownBlock) acc xs :=
  ⟨own_gr hx.1 x hg, RowN.to (fun b hb => ⟨⟨hb.1, Nat.lt_of_lt_of_le hb.2.1 x.size, hb.2.2⟩, x.block b hb.2.1 (by have := hb.1; omega)⟩) hx.2⟩

/-- How many words are left, read off the reader's block. -/
def leftN (g : Nat) (w : World) : Nat := match w.cell? ⟨g, 0, none⟩ with
  | some (.slice _ n _) => n
  | _ => 0
theorem left_st {w : World} {g len : Nat} {st : PS} (h : St w g len st) : leftN g w = st.ts.length := by
  obtain ⟨T, h1, a, cap, rfl, _⟩ := h.ex
  unfold leftN
  rw [rowC h1 0 rfl]
  rfl
theorem next_lt {st : PS} {s : ByteArray} (h : st.isS s = true) : st.next.ts.length < st.ts.length := by
  have := isS_ne h
  cases e : st.ts with
  | nil => exact absurd e this
  | cons t r => simp [PS.next, e]

set_option maxHeartbeats 4000000 in
theorem ops_any (len g : Nat) (ex : Rdr) (f : Nat) (c : ByteArray) (st : PS) (w : World) (hR : Rs w g len st) (hf : st.ts.length < f) (hf2 : f ≤ 100000) (hsh : ∀ s, (ex s).2.ts.length ≤ s.ts.length)
    (hex : ∀ s : PS, s.ts.length ≤ st.ts.length → ExIs g len 73 ex s w) :
    Calls Tryz.prog 122 #[.pointer (some ⟨g, 0, none⟩), .string c] w (Trees g len w (opsP len ex f c st)) := by
  have hg : g < w.heap.size := hR.st.lt
  have HT := hide (takeSign_any len g st c w hR.st)
  have HR := hide hR
  clear hR
  cases hb : st.isS c
  · have e1 : st.takeS c = (false, st) := by unfold PS.takeS; rw [hb]; rfl
    rw [e1] at HT
    have e2 : opsP len ex f c st = ((moreP len ex f [(ex st).1] (ex st).2).1, (moreP len ex f [(ex st).1] (ex st).2).2.sign len c) := by unfold opsP; rw [e1]
    rw [e2]
    obtain ⟨F, hF⟩ : ∃ F, F = moreP len ex f [(ex st).1] (ex st).2 := ⟨_, rfl⟩
    rw [← hF]
    have HF := hide hF
    have HX0 := hide (hex st (Nat.le_refl _))
    have HX := hide hex
    have HSH := hide hsh
    have hl0 := hsh st
    clear hF e1 e2 hb hex hsh
    unfold ExIs at HX0
    generalize ex st = q at HX0 HF hl0
    obtain ⟨⟨k, o, s, n, l⟩, st2⟩ := q
    obtain ⟨i0, hi, hz0, hz1, hz2⟩ := info_parts infoN
    have HI := hide hi
    have Z0 := hide hz0
    have Z1 := hide hz1
    have Z2 := hide hz2
    clear hi hz0 hz1 hz2
    go_enter Tryz.func122, Tryz.ntmps122
    go_wp2_with (first
      | (go_at_call 48; refine Calls.mono (unhide HT) ?_; rintro e w1 ⟨rfl, hs, hw⟩; have S1 := hide hs; have X1 := hide hw; clear hw hs)
      | (go_at_call 73; refine Calls.mono (unhide HX0 _ (unhide X1) ((unhide HR).go (unhide X1) (unhide S1))) ?_; rintro e w2 ⟨v, rfl, hr, hs, hw⟩; rw [RepN] at hr; obtain ⟨a, cap, rfl, hcap, hl⟩ := hr; have S2 := hide hs; have L2 := hide hl; have X2 := hide hw; have X12 := hide ((unhide X1).trans hw); clear hw hs hl)
      | (at_builtin; refine wpList_append_where rfl (.tmp 8) (.tmp 11) 52 rfl w.heap.size 54 i0 (nodV 0 0 emptyB 0 (.slice none 0 0)) 5 64 Tryz.underlying52 (unhide HI) (unhide Z0) (unhide Z1) (unhide Z2) rfl (by decide) none 0 0 [] rfl (World.ownsRow_nil _ _ _ _) ⟨w2.heap.size, 0, none⟩ 1 1 [.int .i64 k, .int .i64 o, .string s, .int .i64 n, .slice a l.length cap] rfl (by decide) rfl (cells_new w2 _ _) (one_cells _ _ _ _ _ _ _) ?c1 ?c2 ?c3 ?_))
    case c1 => unfold maxLen; omega
    case c2 => omega
    case c3 => have := (unhide X12).size; simp; omega
    intro g' cap2 w3 ho3 hg3 hw3
    have hM := more_snoc (acc := []) (k := k) (o := o) (n := n) (s := s) hg (Hold.start (unhide X1)) (unhide X2) (unhide S2) hcap (unhide L2) _ ⟨World.ownsRow_nil _ _ _ _, rfl⟩ ho3 hg3 hw3
    have MI : Hd (MoreI g len ex w w3 F st2 f [⟨k, o, s, n, l⟩] (some ⟨g', 0, none⟩) cap2) := ⟨unhide HF, by omega, by simp; omega, (unhide HR).go hM.1.gr hM.2, hM.1⟩
    clear hM ho3 hg3 hw3 S1 X1 S2 X2 X12 L2 HX0 HF
    go_wp2_with fail
    go_loopw [4] (fun t wr => ∃ (acc : List PN) (ao : Option Addr) (cap : Nat) (stc : PS) (j : Nat), t = .slice ao acc.length cap ∧ Hd (MoreI g len ex w wr F stc j acc ao cap) ∧ stc.ts.length ≤ st.ts.length) (fun _ wr => leftN g wr)
    case atStart => exact ⟨_, _, _, st2, f, rfl, MI, hl0⟩
    case round =>
      clear MI
      obtain ⟨acc, ao, cap, stc, j, rfl, hM, hle⟩ := hrel
      have HTC := hide (takeSign_any len g stc ⟨#[44]⟩ wr (unhide hM).rs.st)
      have hfu := (unhide hM).fuel
      obtain ⟨j, rfl⟩ : ∃ i, j = i + 1 := ⟨j - 1, by omega⟩
      cases hb : stc.isS ⟨#[44]⟩
      · have e1 : stc.takeS ⟨#[44]⟩ = (false, stc) := by unfold PS.takeS; rw [hb]; rfl
        rw [e1] at HTC
        have hF2 : F = (acc, stc) := by rw [(unhide hM).eq, moreP, e1]
        subst hF2
        have HG := hide (fun W (x : St W g len stc) => psign_any len g stc c W x)
        clear e1 hb
        go_wp2_with (first
          | (go_at_call 48; refine Calls.mono (unhide HTC) ?_; rintro e w4 ⟨rfl, hs, hw⟩; have S4 := hide hs; have X4 := hide hw; clear hw hs)
          | (go_at_call 29; refine Calls.mono (unhide HG _ (unhide S4)) ?_; rintro e w5 ⟨rfl, hs, hw⟩; have S5 := hide hs; have X5 := hide ((unhide X4).trans hw); clear hw hs))
        go_ret
        obtain ⟨d1, d2⟩ := ((unhide hM).hold.on (unhide X5) hg).done
        exact ⟨ao, cap, rfl, d1, d2, unhide S5, (unhide hM).hold.gr.trans (unhide X5)⟩
      · have e1 : stc.takeS ⟨#[44]⟩ = (true, stc.next) := by unfold PS.takeS; rw [hb]; rfl
        rw [e1] at HTC
        have hlt := next_lt hb
        have hF2 : F = moreP len ex j (acc ++ [(ex stc.next).1]) (ex stc.next).2 := by rw [(unhide hM).eq, moreP, e1]
        have HF2 := hide hF2
        have HX1 := hide (unhide HX stc.next (by omega))
        have hl1 := unhide HSH stc.next
        have hm0 : leftN g wr = stc.ts.length := left_st (unhide hM).rs.st
        have hbd := (unhide hM).bnd
        clear e1 hb hF2
        unfold ExIs at HX1
        generalize ex stc.next = q at HX1 HF2 hl1
        obtain ⟨⟨k1, o1, s1, n1, l1⟩, st4⟩ := q
        obtain ⟨xs, hx⟩ : ∃ xs, wr.ownsRow w.heap.size 54 5 (.slice ao acc.length cap) acc.length xs ∧ RowN wr (fun b => w.heap.size ≤ b ∧ b < wr.heap.size ∧ some b ≠ (Value.slice ao acc.length cap).ownBlock) acc xs := (unhide hM).hold.own
        have HXS := hide (fun w2 (x : Gr g wr w2) => held_on hx x hg)
        clear hx
        generalize hA : acc.length = A at *
        go_wp2_with (first
          | (go_at_call 48; refine Calls.mono (unhide HTC) ?_; rintro e w4 ⟨rfl, hs, hw⟩; have S4 := hide hs; have X4 := hide hw; clear hw hs)
          | (go_at_call 73; refine Calls.mono (unhide HX1 _ ((unhide hM).hold.gr.trans (unhide X4)) ((unhide hM).rs.go (unhide X4) (unhide S4))) ?_; rintro e w5 ⟨v, rfl, hr, hs, hw⟩; rw [RepN] at hr; obtain ⟨a5, cap5, rfl, hcap5, hl5⟩ := hr; have S5 := hide hs; have L5 := hide hl5; have X5 := hide hw; have X45 := hide ((unhide X4).trans hw); clear hw hs hl5)
          | (at_builtin; refine wpList_append_where rfl (.tmp 15) (.tmp 18) 52 rfl w.heap.size 54 i0 (nodV 0 0 emptyB 0 (.slice none 0 0)) 5 64 Tryz.underlying52 (unhide HI) (unhide Z0) (unhide Z1) (unhide Z2) rfl (by decide) ao A cap xs rfl (unhide HXS _ ((unhide X45).alloc _)).1 ⟨w5.heap.size, 0, none⟩ 1 1 [.int .i64 k1, .int .i64 o1, .string s1, .int .i64 n1, .slice a5 l1.length cap5] rfl (by decide) rfl (cells_new w5 _ _) (one_cells _ _ _ _ _ _ _) ?c1 ?c2 ?c3 ?_))
        case c1 => unfold maxLen; omega
        case c2 => omega
        case c3 => have := (unhide hM).hold.gr.size; have := (unhide X45).size; simp; omega
        intro g2 cap6 w6 ho6 hg6 hw6
        subst hA
        have hN := more_snoc (k := k1) (o := o1) (n := n1) (s := s1) hg ((unhide hM).hold.on (unhide X4) hg) (unhide X5) (unhide S5) hcap5 (unhide L5) _ (unhide HXS _ ((unhide X45).alloc _)) ho6 hg6 hw6
        have hm1 : leftN g w6 = st4.ts.length := left_st hN.2
        have MN : Hd (MoreI g len ex w w6 F st4 j (acc ++ [⟨k1, o1, s1, n1, l1⟩]) (some ⟨g2, 0, none⟩) cap6) := ⟨unhide HF2, by omega, by simp; omega, (unhide HR).go hN.1.gr hN.2, hN.1⟩
        have hln : (acc ++ [(⟨k1, o1, s1, n1, l1⟩ : PN)]).length = acc.length + 1 := by simp
        clear ho6 hg6 hw6 hN
        go_wp2_with fail
        go_roundw
        case rel => exact ⟨_, _, _, st4, j, by rw [hln], MN, by omega⟩
        case measure => rw [hm0, hm1]; omega
  · have e1 : st.takeS c = (true, st.next) := by unfold PS.takeS; rw [hb]; rfl
    rw [e1] at HT
    have e2 : opsP len ex f c st = ([], st.next) := by unfold opsP; rw [e1]
    rw [e2]
    clear e1 e2 hb hex hsh
    go_enter Tryz.func122, Tryz.ntmps122
    go_wp2_with (go_at_call 48; refine Calls.mono (unhide HT) ?_; rintro e w1 ⟨rfl, hs, hw⟩; have S1 := hide hs; have X1 := hide hw; clear hw hs)
    go_ret
    exact ⟨none, 0, rfl, Nat.le_refl _, by simp [RepNL], unhide S1, unhide X1⟩

end Go.Proofs.YtjeledllejlpcaaGreatDoor
