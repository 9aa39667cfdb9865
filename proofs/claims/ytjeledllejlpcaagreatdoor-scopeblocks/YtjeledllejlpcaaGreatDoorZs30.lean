/- A row of numbers that came in as an argument, opened. · From what a row lists of the package-level variables to what the walks ask of memory: the table of operators, the names of the operations, the six that are called by name, the sentinel of a range error. -/
import Derived.Test.YtjeledllejlpcaaGreatDoorZs29
import Derived.Deep.Slices
import Derived.ChangeSame
import Derived.Test.YtjeledllejlpcaaGreatDoorZs25
import Derived.Test.YtjeledllejlpcaaGreatDoorRows
import Derived.Lib.LaidU8
import Derived.LaidMore
import Derived.LaidLaws
import Derived.ProofKit
set_option linter.unusedSimpArgs false
set_option linter.unusedVariables false
set_option maxRecDepth 10000

namespace Go.Proofs.YtjeledllejlpcaaGreatDoor
open Go.RowKit Go.ChangeShapes Go.WideShapes Go.Deep

theorem cellsSb : Tryz.prog.cellsOf 3 = 1 := by kernel_rfl

theorem open_ints {H : Type} {enc : TypeId × Value → H} {w : World} {base : Nat} {spare : Nat → Bool} {held : Bool} {fuel : Nat} {a : Option Addr} {len cap : Nat} {x : DataW H × List MemPlace}
    (h : DataW.trod enc Tryz.prog w base spare held fuel 22 [.slice a len cap] = some x) : ∃ l : List Int, l.length = len ∧ ArgI w a l ∧ len ≤ 9223372036854775807 := by
  rcases open_slice Tryz.underlying22 h with ⟨hcs, _⟩ | ⟨b, l, c, m, n, D, Pl, hcs, hb, hl, hm, hmm, _, hx⟩
  · simp at hcs
    obtain ⟨rfl, rfl, rfl⟩ := hcs
    exact ⟨[], rfl, Or.inl rfl, by omega⟩
  · simp at hcs
    obtain ⟨rfl, rfl, rfl⟩ := hcs
    have hlm : len ≤ m := by rw [hmm]; split <;> omega
    have hmx : len ≤ 9223372036854775807 := by unfold maxLen at hm; omega
    have each : ∀ i, i < m → ∃ q : Int, w.cell? (b.add i) = some (.int .i64 q) := by
      intro i hi
      obtain ⟨cs', h1, h2⟩ := hx i hi
      rw [cellsSb] at h1
      obtain ⟨_, hlen, hcell⟩ := World.cells?_some h1
      match cs', hlen with
      | [v0], _ =>
        obtain ⟨z0, e0, _, _⟩ := DataW.trod_int Tryz.underlying3 h2
        simp at e0
        subst e0
        have c0 := hcell 0 (by omega)
        rw [add_add] at c0
        exact ⟨z0, by simpa using c0⟩
    obtain ⟨q, hq⟩ := choose_lt each
    refine ⟨(List.range len).map q, by simp, ?_, hmx⟩
    by_cases h0 : len = 0
    · subst h0; exact Or.inl rfl
    · obtain ⟨bb, off, spot⟩ := b
      have hsp : spot = none := by simpa [Addr.add] using World.cell?_spot (hq 0 (by omega))
      subst hsp
      refine Or.inr ⟨bb, off, rfl, fun j i hi => ?_⟩
      have hj : j < len := by
        have := (List.getElem?_eq_some_iff.1 hi).1
        simpa using this
      have hqi : i = q j := by
        rw [List.getElem?_map, List.getElem?_range hj] at hi
        simpa using hi.symm
      subst hqi
      have a0 := hq j (by omega)
      rw [add_plain] at a0
      exact a0

end Go.Proofs.YtjeledllejlpcaaGreatDoor

namespace Go.Proofs.YtjeledllejlpcaaGreatDoor
open Go.RowKit Go.Maps

def oprD (o : Opr) : DataW Unit := .agg [.lit (.string o.s.data.toList), .lit (.int .i64 o.lv), .lit (.int .i64 o.k), .lit (.int .i64 o.o)]

theorem bytes_of_list {s t : ByteArray} (h : s.data.toList = t.data.toList) : s = t := by
  cases s; cases t
  simpa using h

theorem one_of_take {cs : List Value} {k : Nat} {v : Value} (h : (cs.drop k).take 1 = [v]) : cs[k]? = some v := by
  have := congrArg (·[0]?) h
  simpa [List.getElem?_take, List.getElem?_drop] using this

theorem opr_of_trod {W : World} {fuel : Nat} {cs : List Value} {q : List MemPlace} (o : Opr)
    (h : DataW.trod (fun _ => ()) Tryz.prog W 0 (fun _ => true) false fuel 119 cs = some (oprD o, q)) : ∀ r < 4, cs[r]? = (oprC o)[r]? := by
  obtain ⟨xs, n, rfl, hx, hl, hxl, hall⟩ := DataW.trod_struct Tryz.underlying119 h
  have hd : xs.map (·.1) = [.lit (.string o.s.data.toList), .lit (.int .i64 o.lv), .lit (.int .i64 o.k), .lit (.int .i64 o.o)] := by
    have := congrArg Prod.fst hx
    simpa [oprD] using this.symm
  obtain ⟨x0, x1, x2, x3, rfl⟩ : ∃ x0 x1 x2 x3, xs = [x0, x1, x2, x3] := by
    match xs, hxl with
    | [x0, x1, x2, x3], _ => exact ⟨x0, x1, x2, x3, rfl⟩
  simp only [List.map_cons, List.map_nil, List.cons.injEq, and_true] at hd
  obtain ⟨d0, d1, d2, d3⟩ := hd
  have c3 : Tryz.prog.cellsOf 9 = 1 := by kernel_rfl
  have c1 : Tryz.prog.cellsOf 3 = 1 := by kernel_rfl
  have h0 : DataW.trod (fun _ => ()) Tryz.prog W 0 (fun _ => true) false n 9 ((cs.drop 0).take (Tryz.prog.cellsOf 9)) = some x0 := hall 0 _ rfl
  have h1 : DataW.trod (fun _ => ()) Tryz.prog W 0 (fun _ => true) false n 3 ((cs.drop 1).take (Tryz.prog.cellsOf 3)) = some x1 := hall 1 _ rfl
  have h2 : DataW.trod (fun _ => ()) Tryz.prog W 0 (fun _ => true) false n 3 ((cs.drop 2).take (Tryz.prog.cellsOf 3)) = some x2 := hall 2 _ rfl
  have h3 : DataW.trod (fun _ => ()) Tryz.prog W 0 (fun _ => true) false n 3 ((cs.drop 3).take (Tryz.prog.cellsOf 3)) = some x3 := hall 3 _ rfl
  obtain ⟨s, e0, y0, _⟩ := DataW.trod_string Tryz.underlying9 h0
  obtain ⟨a, e1, y1, _⟩ := DataW.trod_int Tryz.underlying3 h1
  obtain ⟨b, e2, y2, _⟩ := DataW.trod_int Tryz.underlying3 h2
  obtain ⟨c, e3, y3, _⟩ := DataW.trod_int Tryz.underlying3 h3
  subst y0 y1 y2 y3
  simp only [DataW.lit.injEq, Lit.string.injEq, Lit.int.injEq, true_and] at d0 d1 d2 d3
  obtain rfl := bytes_of_list d0
  subst d1 d2 d3
  rw [c3] at e0
  rw [c1] at e1 e2 e3
  have g0 := one_of_take e0
  have g1 := one_of_take e1
  have g2 := one_of_take e2
  have g3 := one_of_take e3
  intro r hr
  match r, hr with
  | 0, _ => exact g0
  | 1, _ => exact g1
  | 2, _ => exact g2
  | 3, _ => exact g3

theorem opTab_at (i r : Nat) (o : Opr) (h : oprs[i]? = some o) (hr : r < 4) : opTab[i * 4 + r]? = (oprC o)[r]? := by
  match i, h with
  | 0, h => obtain rfl := Option.some.inj h; match r, hr with | 0, _ => rfl | 1, _ => rfl | 2, _ => rfl | 3, _ => rfl
  | 1, h => obtain rfl := Option.some.inj h; match r, hr with | 0, _ => rfl | 1, _ => rfl | 2, _ => rfl | 3, _ => rfl
  | 2, h => obtain rfl := Option.some.inj h; match r, hr with | 0, _ => rfl | 1, _ => rfl | 2, _ => rfl | 3, _ => rfl
  | 3, h => obtain rfl := Option.some.inj h; match r, hr with | 0, _ => rfl | 1, _ => rfl | 2, _ => rfl | 3, _ => rfl
  | 4, h => obtain rfl := Option.some.inj h; match r, hr with | 0, _ => rfl | 1, _ => rfl | 2, _ => rfl | 3, _ => rfl
  | 5, h => obtain rfl := Option.some.inj h; match r, hr with | 0, _ => rfl | 1, _ => rfl | 2, _ => rfl | 3, _ => rfl
  | 6, h => obtain rfl := Option.some.inj h; match r, hr with | 0, _ => rfl | 1, _ => rfl | 2, _ => rfl | 3, _ => rfl
  | 7, h => obtain rfl := Option.some.inj h; match r, hr with | 0, _ => rfl | 1, _ => rfl | 2, _ => rfl | 3, _ => rfl
  | 8, h => obtain rfl := Option.some.inj h; match r, hr with | 0, _ => rfl | 1, _ => rfl | 2, _ => rfl | 3, _ => rfl
  | 9, h => obtain rfl := Option.some.inj h; match r, hr with | 0, _ => rfl | 1, _ => rfl | 2, _ => rfl | 3, _ => rfl
  | 10, h => obtain rfl := Option.some.inj h; match r, hr with | 0, _ => rfl | 1, _ => rfl | 2, _ => rfl | 3, _ => rfl
  | 11, h => obtain rfl := Option.some.inj h; match r, hr with | 0, _ => rfl | 1, _ => rfl | 2, _ => rfl | 3, _ => rfl
  | 12, h => obtain rfl := Option.some.inj h; match r, hr with | 0, _ => rfl | 1, _ => rfl | 2, _ => rfl | 3, _ => rfl
  | 13, h => obtain rfl := Option.some.inj h; match r, hr with | 0, _ => rfl | 1, _ => rfl | 2, _ => rfl | 3, _ => rfl
  | 14, h => obtain rfl := Option.some.inj h; match r, hr with | 0, _ => rfl | 1, _ => rfl | 2, _ => rfl | 3, _ => rfl
  | 15, h => obtain rfl := Option.some.inj h; match r, hr with | 0, _ => rfl | 1, _ => rfl | 2, _ => rfl | 3, _ => rfl
  | i + 16, h => simp [oprs] at h

theorem opx_of_reads {W : World} (h : Lib.VarReads Tryz.prog W "ratline/parse.operators" (.agg (oprs.map oprD))) : Opx W := by
  obtain ⟨g, t, cs, fuel, p, hg, hty, hvar, hd⟩ := h
  obtain rfl := Option.some.inj ((show Tryz.prog.globalNamed "ratline/parse.operators" = some 4 by kernel_rfl).symm.trans hg)
  obtain rfl := Option.some.inj ((show (Tryz.prog.globals[4]?).map (·.type) = some 140 by kernel_rfl).symm.trans hty)
  have c4 : Tryz.prog.cellsOf 119 = 4 := by kernel_rfl
  intro j v hv
  have hj : j < 64 := by
    obtain ⟨hl, _⟩ := List.getElem?_eq_some_iff.1 hv
    exact hl
  obtain ⟨fuel', d, q, hdi, he⟩ := Lib.array_elem Tryz.underlying140 hd (j / 4) (by omega)
  rw [List.getElem?_map] at hdi
  obtain ⟨o, ho, rfl⟩ := Option.map_eq_some_iff.1 hdi
  have h1 := opr_of_trod o he (j % 4) (by omega)
  rw [c4, List.getElem?_take_of_lt (by omega), List.getElem?_drop] at h1
  have h2 := opTab_at (j / 4) (j % 4) o ho (by omega)
  have hjj : j / 4 * 4 + j % 4 = j := by omega
  rw [hjj] at h1 h2
  rw [Nat.zero_add, World.var?_cell hg hvar j, ← Array.getElem?_toList, h1, ← h2, hv]

def nmS : List ByteArray := [⟨#[]⟩, ⟨#[43]⟩, ⟨#[45]⟩, ⟨#[42]⟩, ⟨#[47]⟩, ⟨#[37]⟩, ⟨#[61, 61]⟩, ⟨#[33, 61]⟩, ⟨#[60]⟩, ⟨#[60, 61]⟩, ⟨#[62]⟩, ⟨#[62, 61]⟩, ⟨#[91, 93]⟩, ⟨#[112, 117, 115, 104]⟩, ⟨#[99, 120]⟩, ⟨#[45]⟩, ⟨#[33]⟩, ⟨#[108, 101, 110]⟩, ⟨#[114, 101]⟩, ⟨#[105, 109]⟩, ⟨#[99, 111, 110, 106]⟩]
def nmD : DataW Unit := .agg (nmS.map fun s => .lit (.string s.data.toList))

theorem nm_of_reads {W : World} (h : Lib.VarReads Tryz.prog W "ratline/ops.names" nmD) (j : Nat) (s : ByteArray) (hs : nmS[j]? = some s) : W.cell? ⟨1, j, none⟩ = some (.string s) := by
  obtain ⟨g, t, cs, fuel, p, hg, hty, hvar, hd⟩ := h
  obtain rfl := Option.some.inj ((show Tryz.prog.globalNamed "ratline/ops.names" = some 1 by kernel_rfl).symm.trans hg)
  obtain rfl := Option.some.inj ((show (Tryz.prog.globals[1]?).map (·.type) = some 78 by kernel_rfl).symm.trans hty)
  have c1 : Tryz.prog.cellsOf 9 = 1 := by kernel_rfl
  obtain ⟨hl, _⟩ := List.getElem?_eq_some_iff.1 hs
  have hl' : j < 21 := hl
  obtain ⟨fuel', d, q, hdi, he⟩ := Lib.array_elem Tryz.underlying78 hd j hl'
  rw [List.getElem?_map, hs] at hdi
  obtain rfl := Option.some.inj hdi
  obtain ⟨s', e0, y0, _⟩ := DataW.trod_string Tryz.underlying9 he
  simp only [Prod.mk.injEq, DataW.lit.injEq, Lit.string.injEq] at y0
  obtain rfl := bytes_of_list y0.1
  rw [c1, Nat.mul_one] at e0
  rw [World.var?_cell hg hvar j, ← Array.getElem?_toList]
  exact one_of_take e0

theorem bi_of_reads {W : World} (h : Lib.VarReads Tryz.prog W "ratline/scope.calledByName" (Lib.tabData .i64 [13, 14, 17, 18, 19, 20])) : W.rangeAt 0 0 biT := by
  obtain ⟨g, t, cs, fuel, p, hg, hty, hvar, hd⟩ := h
  obtain rfl := Option.some.inj ((show Tryz.prog.globalNamed "ratline/scope.calledByName" = some 0 by kernel_rfl).symm.trans hg)
  obtain rfl := Option.some.inj ((show (Tryz.prog.globals[0]?).map (·.type) = some 58 by kernel_rfl).symm.trans hty)
  have hcs := Lib.cells_of_tab Tryz.underlying58 Tryz.underlying3 (by kernel_rfl) (by kernel_rfl) hd
  intro j v hv
  rw [Nat.zero_add, World.var?_cell hg hvar j, ← Array.getElem?_toList, hcs]
  exact hv

theorem er_of_reads {W : World} (h : Lib.VarReads Tryz.prog W "strconv.ErrRange" Rows.laid_strconv_ErrRange) : Er W := by
  obtain ⟨g, t, cs, fuel, p, hg, ht, hv, hd⟩ := h
  obtain rfl := Option.some.inj ((show Tryz.prog.globalNamed "strconv.ErrRange" = some 3 by kernel_rfl).symm.trans hg)
  obtain rfl := Option.some.inj ((show (Tryz.prog.globals[3]?).map (·.type) = some 102 by kernel_rfl).symm.trans ht)
  obtain ⟨fuel', u, v, hcs, _, _⟩ := iface_of_trod Tryz.underlying102 hd
  have h0 := World.var?_cell hg hv 0
  refine ⟨u, v, h0.trans ?_⟩
  obtain rfl : cs = #[.iface u v] := by cases cs; simp_all
  rfl

theorem tbl_of_reads {W : World} (h : Lib.VarReads Tryz.prog W "ratline/ops.names" nmD) (h2 : Lib.VarReads Tryz.prog W "ratline/scope.calledByName" (Lib.tabData .i64 [13, 14, 17, 18, 19, 20])) : Tbl W := by
  refine ⟨bi_of_reads h2, fun j x hx => nm_of_reads h _ _ ?_⟩
  match j, hx with
  | 0, h => obtain rfl := Option.some.inj h; rfl
  | 1, h => obtain rfl := Option.some.inj h; rfl
  | 2, h => obtain rfl := Option.some.inj h; rfl
  | 3, h => obtain rfl := Option.some.inj h; rfl
  | 4, h => obtain rfl := Option.some.inj h; rfl
  | 5, h => obtain rfl := Option.some.inj h; rfl
  | j + 6, h => simp [biL] at h

end Go.Proofs.YtjeledllejlpcaaGreatDoor
