/- The law GenTicks. · From what a row lists of the package-level variables to what the walks ask of memory: the table of operators, the names of the operations, the six that are called by name, the sentinel of a range error. · From what a row lists of gen.shapes to what the walks ask of memory. -/
import Derived.Test.YtlgdjeiendmniaaGreatDoorZg40
import Derived.Test.YtlgdjeiendmniaaGreatDoorZg41
import Derived.Test.YtlgdjeiendmniaaGreatDoorZg42
import Derived.Test.YtlgdjeiendmniaaGreatDoorZg43
import Derived.Test.YtlgdjeiendmniaaGreatDoorZg44
import Derived.Test.YtlgdjeiendmniaaGreatDoorZg45
import Derived.Test.YtlgdjeiendmniaaGreatDoorZg46
import Derived.Test.YtlgdjeiendmniaaGreatDoorZg47
import Derived.Test.YtlgdjeiendmniaaGreatDoorZg48
import Derived.Test.YtlgdjeiendmniaaGreatDoorZg28
import Derived.Test.YtlgdjeiendmniaaGreatDoorRows
import Derived.Lib.LaidU8
import Derived.LaidMore
import Derived.LaidLaws
import Derived.ProofKit
import Derived.Test.YtlgdjeiendmniaaGreatDoorZg35
set_option linter.unusedSimpArgs false
set_option linter.unusedVariables false
set_option maxRecDepth 10000

namespace Go.Proofs.YtlgdjeiendmniaaGreatDoor
open Go.RowKit

theorem tk_row {l o : Nat} (h : (List.range 8).all (fun c => tkOk l c o) = true) (c : Nat) (hc : c < 8) : tkOk l c o = true := List.all_eq_true.1 h c (List.mem_range.2 hc)
theorem tk_o0 (l c : Nat) (hl : l < 8) (hc : c < 8) : tkOk l c 0 = true := by
  match l, hl with
  | 0, _ => exact tk_row tkr_0_0 c hc
  | 1, _ => exact tk_row tkr_0_1 c hc
  | 2, _ => exact tk_row tkr_0_2 c hc
  | 3, _ => exact tk_row tkr_0_3 c hc
  | 4, _ => exact tk_row tkr_0_4 c hc
  | 5, _ => exact tk_row tkr_0_5 c hc
  | 6, _ => exact tk_row tkr_0_6 c hc
  | 7, _ => exact tk_row tkr_0_7 c hc
theorem tk_o1 (l c : Nat) (hl : l < 8) (hc : c < 8) : tkOk l c 1 = true := by
  match l, hl with
  | 0, _ => exact tk_row tkr_1_0 c hc
  | 1, _ => exact tk_row tkr_1_1 c hc
  | 2, _ => exact tk_row tkr_1_2 c hc
  | 3, _ => exact tk_row tkr_1_3 c hc
  | 4, _ => exact tk_row tkr_1_4 c hc
  | 5, _ => exact tk_row tkr_1_5 c hc
  | 6, _ => exact tk_row tkr_1_6 c hc
  | 7, _ => exact tk_row tkr_1_7 c hc
theorem tk_o2 (l c : Nat) (hl : l < 8) (hc : c < 8) : tkOk l c 2 = true := by
  match l, hl with
  | 0, _ => exact tk_row tkr_2_0 c hc
  | 1, _ => exact tk_row tkr_2_1 c hc
  | 2, _ => exact tk_row tkr_2_2 c hc
  | 3, _ => exact tk_row tkr_2_3 c hc
  | 4, _ => exact tk_row tkr_2_4 c hc
  | 5, _ => exact tk_row tkr_2_5 c hc
  | 6, _ => exact tk_row tkr_2_6 c hc
  | 7, _ => exact tk_row tkr_2_7 c hc
theorem tk_o3 (l c : Nat) (hl : l < 8) (hc : c < 8) : tkOk l c 3 = true := by
  match l, hl with
  | 0, _ => exact tk_row tkr_3_0 c hc
  | 1, _ => exact tk_row tkr_3_1 c hc
  | 2, _ => exact tk_row tkr_3_2 c hc
  | 3, _ => exact tk_row tkr_3_3 c hc
  | 4, _ => exact tk_row tkr_3_4 c hc
  | 5, _ => exact tk_row tkr_3_5 c hc
  | 6, _ => exact tk_row tkr_3_6 c hc
  | 7, _ => exact tk_row tkr_3_7 c hc
theorem tk_o4 (l c : Nat) (hl : l < 8) (hc : c < 8) : tkOk l c 4 = true := by
  match l, hl with
  | 0, _ => exact tk_row tkr_4_0 c hc
  | 1, _ => exact tk_row tkr_4_1 c hc
  | 2, _ => exact tk_row tkr_4_2 c hc
  | 3, _ => exact tk_row tkr_4_3 c hc
  | 4, _ => exact tk_row tkr_4_4 c hc
  | 5, _ => exact tk_row tkr_4_5 c hc
  | 6, _ => exact tk_row tkr_4_6 c hc
  | 7, _ => exact tk_row tkr_4_7 c hc
theorem tk_o5 (l c : Nat) (hl : l < 8) (hc : c < 8) : tkOk l c 5 = true := by
  match l, hl with
  | 0, _ => exact tk_row tkr_5_0 c hc
  | 1, _ => exact tk_row tkr_5_1 c hc
  | 2, _ => exact tk_row tkr_5_2 c hc
  | 3, _ => exact tk_row tkr_5_3 c hc
  | 4, _ => exact tk_row tkr_5_4 c hc
  | 5, _ => exact tk_row tkr_5_5 c hc
  | 6, _ => exact tk_row tkr_5_6 c hc
  | 7, _ => exact tk_row tkr_5_7 c hc
theorem tk_o6 (l c : Nat) (hl : l < 8) (hc : c < 8) : tkOk l c 6 = true := by
  match l, hl with
  | 0, _ => exact tk_row tkr_6_0 c hc
  | 1, _ => exact tk_row tkr_6_1 c hc
  | 2, _ => exact tk_row tkr_6_2 c hc
  | 3, _ => exact tk_row tkr_6_3 c hc
  | 4, _ => exact tk_row tkr_6_4 c hc
  | 5, _ => exact tk_row tkr_6_5 c hc
  | 6, _ => exact tk_row tkr_6_6 c hc
  | 7, _ => exact tk_row tkr_6_7 c hc
theorem tk_o7 (l c : Nat) (hl : l < 8) (hc : c < 8) : tkOk l c 7 = true := by
  match l, hl with
  | 0, _ => exact tk_row tkr_7_0 c hc
  | 1, _ => exact tk_row tkr_7_1 c hc
  | 2, _ => exact tk_row tkr_7_2 c hc
  | 3, _ => exact tk_row tkr_7_3 c hc
  | 4, _ => exact tk_row tkr_7_4 c hc
  | 5, _ => exact tk_row tkr_7_5 c hc
  | 6, _ => exact tk_row tkr_7_6 c hc
  | 7, _ => exact tk_row tkr_7_7 c hc
theorem tk_all (l c o : Nat) (hl : l < 8) (hc : c < 8) (ho : o < 8) : tkOk l c o = true := by
  match o, ho with
  | 0, _ => exact tk_o0 l c hl hc
  | 1, _ => exact tk_o1 l c hl hc
  | 2, _ => exact tk_o2 l c hl hc
  | 3, _ => exact tk_o3 l c hl hc
  | 4, _ => exact tk_o4 l c hl hc
  | 5, _ => exact tk_o5 l c hl hc
  | 6, _ => exact tk_o6 l c hl hc
  | 7, _ => exact tk_o7 l c hl hc
theorem ticks_walk (a0 a1 a2 : Int) (w : World) (he : Er w) (hO : Opx w) (hT : Tbl w) (hP : Shp w) :
    Calls Tryz.prog 3 #[.int .i64 a0, .int .i64 a1, .int .i64 a2] w fun e w' => e = .returned (.bool true) ∧ Ext w w' := by
  obtain ⟨l, h0, hl⟩ := mask7 a0
  obtain ⟨c, h1, hc⟩ := mask7 a1
  obtain ⟨o, h2, ho⟩ := mask7 a2
  exact ticks_walk0 a0 a1 a2 l c o w h0 h1 h2 hl hc ho (tk_all l c o hl hc ho) he hO hT hP

end Go.Proofs.YtlgdjeiendmniaaGreatDoor

namespace Go.Proofs.YtlgdjeiendmniaaGreatDoor
open Go.RowKit Go.Maps

def oprD (o : Opr) : DataW Unit := .agg [.lit (.string o.s.data.toList), .lit (.int .i64 o.lv), .lit (.int .i64 o.k), .lit (.int .i64 o.o)]

theorem bytes_of_list {s t : ByteArray} (h : s.data.toList = t.data.toList) : s = t := by
  cases s; cases t
  simpa using h

theorem one_of_take {cs : List Value} {k : Nat} {v : Value} (h : (cs.drop k).take 1 = [v]) : cs[k]? = some v := by
  have := congrArg (·[0]?) h
  simpa [List.getElem?_take, List.getElem?_drop] using this

theorem opr_of_trod {W : World} {fuel : Nat} {cs : List Value} {q : List MemPlace} (o : Opr)
    (h : DataW.trod (fun _ => ()) Tryz.prog W 0 (fun _ => true) false fuel 198 cs = some (oprD o, q)) : ∀ r < 4, cs[r]? = (oprC o)[r]? := by
  obtain ⟨xs, n, rfl, hx, hl, hxl, hall⟩ := DataW.trod_struct Tryz.underlying198 h
  have hd : xs.map (·.1) = [.lit (.string o.s.data.toList), .lit (.int .i64 o.lv), .lit (.int .i64 o.k), .lit (.int .i64 o.o)] := by
    have := congrArg Prod.fst hx
    simpa [oprD] using this.symm
  obtain ⟨x0, x1, x2, x3, rfl⟩ : ∃ x0 x1 x2 x3, xs = [x0, x1, x2, x3] := by
    match xs, hxl with
    | [x0, x1, x2, x3], _ => exact ⟨x0, x1, x2, x3, rfl⟩
  simp only [List.map_cons, List.map_nil, List.cons.injEq, and_true] at hd
  obtain ⟨d0, d1, d2, d3⟩ := hd
  have c3 : Tryz.prog.cellsOf 9 = 1 := by kernel_rfl
  have c1 : Tryz.prog.cellsOf 3 = 1 := by kernel_rfl
  have h0 : DataW.trod (fun _ => ()) Tryz.prog W 0 (fun _ => true) false n 9 ((cs.drop 0).take (Tryz.prog.cellsOf 9)) = some x0 := hall 0 _ rfl
  have h1 : DataW.trod (fun _ => ()) Tryz.prog W 0 (fun _ => true) false n 3 ((cs.drop 1).take (Tryz.prog.cellsOf 3)) = some x1 := hall 1 _ rfl
  have h2 : DataW.trod (fun _ => ()) Tryz.prog W 0 (fun _ => true) false n 3 ((cs.drop 2).take (Tryz.prog.cellsOf 3)) = some x2 := hall 2 _ rfl
  have h3 : DataW.trod (fun _ => ()) Tryz.prog W 0 (fun _ => true) false n 3 ((cs.drop 3).take (Tryz.prog.cellsOf 3)) = some x3 := hall 3 _ rfl
  obtain ⟨s, e0, y0, _⟩ := DataW.trod_string Tryz.underlying9 h0
  obtain ⟨a, e1, y1, _⟩ := DataW.trod_int Tryz.underlying3 h1
  obtain ⟨b, e2, y2, _⟩ := DataW.trod_int Tryz.underlying3 h2
  obtain ⟨c, e3, y3, _⟩ := DataW.trod_int Tryz.underlying3 h3
  subst y0 y1 y2 y3
  simp only [DataW.lit.injEq, Lit.string.injEq, Lit.int.injEq, true_and] at d0 d1 d2 d3
  obtain rfl := bytes_of_list d0
  subst d1 d2 d3
  rw [c3] at e0
  rw [c1] at e1 e2 e3
  have g0 := one_of_take e0
  have g1 := one_of_take e1
  have g2 := one_of_take e2
  have g3 := one_of_take e3
  intro r hr
  match r, hr with
  | 0, _ => exact g0
  | 1, _ => exact g1
  | 2, _ => exact g2
  | 3, _ => exact g3

theorem opTab_at (i r : Nat) (o : Opr) (h : oprs[i]? = some o) (hr : r < 4) : opTab[i * 4 + r]? = (oprC o)[r]? := by
  match i, h with
  | 0, h => obtain rfl := Option.some.inj h; match r, hr with | 0, _ => rfl | 1, _ => rfl | 2, _ => rfl | 3, _ => rfl
  | 1, h => obtain rfl := Option.some.inj h; match r, hr with | 0, _ => rfl | 1, _ => rfl | 2, _ => rfl | 3, _ => rfl
  | 2, h => obtain rfl := Option.some.inj h; match r, hr with | 0, _ => rfl | 1, _ => rfl | 2, _ => rfl | 3, _ => rfl
  | 3, h => obtain rfl := Option.some.inj h; match r, hr with | 0, _ => rfl | 1, _ => rfl | 2, _ => rfl | 3, _ => rfl
  | 4, h => obtain rfl := Option.some.inj h; match r, hr with | 0, _ => rfl | 1, _ => rfl | 2, _ => rfl | 3, _ => rfl
  | 5, h => obtain rfl := Option.some.inj h; match r, hr with | 0, _ => rfl | 1, _ => rfl | 2, _ => rfl | 3, _ => rfl
  | 6, h => obtain rfl := Option.some.inj h; match r, hr with | 0, _ => rfl | 1, _ => rfl | 2, _ => rfl | 3, _ => rfl
  | 7, h => obtain rfl := Option.some.inj h; match r, hr with | 0, _ => rfl | 1, _ => rfl | 2, _ => rfl | 3, _ => rfl
  | 8, h => obtain rfl := Option.some.inj h; match r, hr with | 0, _ => rfl | 1, _ => rfl | 2, _ => rfl | 3, _ => rfl
  | 9, h => obtain rfl := Option.some.inj h; match r, hr with | 0, _ => rfl | 1, _ => rfl | 2, _ => rfl | 3, _ => rfl
  | 10, h => obtain rfl := Option.some.inj h; match r, hr with | 0, _ => rfl | 1, _ => rfl | 2, _ => rfl | 3, _ => rfl
  | 11, h => obtain rfl := Option.some.inj h; match r, hr with | 0, _ => rfl | 1, _ => rfl | 2, _ => rfl | 3, _ => rfl
  | 12, h => obtain rfl := Option.some.inj h; match r, hr with | 0, _ => rfl | 1, _ => rfl | 2, _ => rfl | 3, _ => rfl
  | 13, h => obtain rfl := Option.some.inj h; match r, hr with | 0, _ => rfl | 1, _ => rfl | 2, _ => rfl | 3, _ => rfl
  | 14, h => obtain rfl := Option.some.inj h; match r, hr with | 0, _ => rfl | 1, _ => rfl | 2, _ => rfl | 3, _ => rfl
  | 15, h => obtain rfl := Option.some.inj h; match r, hr with | 0, _ => rfl | 1, _ => rfl | 2, _ => rfl | 3, _ => rfl
  | i + 16, h => simp [oprs] at h

theorem opx_of_reads {W : World} (h : Lib.VarReads Tryz.prog W "ratline/parse.operators" (.agg (oprs.map oprD))) : Opx W := by
  obtain ⟨g, t, cs, fuel, p, hg, hty, hvar, hd⟩ := h
  obtain rfl := Option.some.inj ((show Tryz.prog.globalNamed "ratline/parse.operators" = some 6 by kernel_rfl).symm.trans hg)
  obtain rfl := Option.some.inj ((show (Tryz.prog.globals[6]?).map (·.type) = some 225 by kernel_rfl).symm.trans hty)
  have c4 : Tryz.prog.cellsOf 198 = 4 := by kernel_rfl
  intro j v hv
  have hj : j < 64 := by
    obtain ⟨hl, _⟩ := List.getElem?_eq_some_iff.1 hv
    exact hl
  obtain ⟨fuel', d, q, hdi, he⟩ := Lib.array_elem Tryz.underlying225 hd (j / 4) (by omega)
  rw [List.getElem?_map] at hdi
  obtain ⟨o, ho, rfl⟩ := Option.map_eq_some_iff.1 hdi
  have h1 := opr_of_trod o he (j % 4) (by omega)
  rw [c4, List.getElem?_take_of_lt (by omega), List.getElem?_drop] at h1
  have h2 := opTab_at (j / 4) (j % 4) o ho (by omega)
  have hjj : j / 4 * 4 + j % 4 = j := by omega
  rw [hjj] at h1 h2
  rw [Nat.zero_add, World.var?_cell hg hvar j, ← Array.getElem?_toList, h1, ← h2, hv]

def nmS : List ByteArray := [⟨#[]⟩, ⟨#[43]⟩, ⟨#[45]⟩, ⟨#[42]⟩, ⟨#[47]⟩, ⟨#[37]⟩, ⟨#[61, 61]⟩, ⟨#[33, 61]⟩, ⟨#[60]⟩, ⟨#[60, 61]⟩, ⟨#[62]⟩, ⟨#[62, 61]⟩, ⟨#[91, 93]⟩, ⟨#[112, 117, 115, 104]⟩, ⟨#[99, 120]⟩, ⟨#[45]⟩, ⟨#[33]⟩, ⟨#[108, 101, 110]⟩, ⟨#[114, 101]⟩, ⟨#[105, 109]⟩, ⟨#[99, 111, 110, 106]⟩]
def nmD : DataW Unit := .agg (nmS.map fun s => .lit (.string s.data.toList))

theorem nm_of_reads {W : World} (h : Lib.VarReads Tryz.prog W "ratline/ops.names" nmD) (j : Nat) (s : ByteArray) (hs : nmS[j]? = some s) : W.cell? ⟨2, j, none⟩ = some (.string s) := by
  obtain ⟨g, t, cs, fuel, p, hg, hty, hvar, hd⟩ := h
  obtain rfl := Option.some.inj ((show Tryz.prog.globalNamed "ratline/ops.names" = some 2 by kernel_rfl).symm.trans hg)
  obtain rfl := Option.some.inj ((show (Tryz.prog.globals[2]?).map (·.type) = some 170 by kernel_rfl).symm.trans hty)
  have c1 : Tryz.prog.cellsOf 9 = 1 := by kernel_rfl
  obtain ⟨hl, _⟩ := List.getElem?_eq_some_iff.1 hs
  have hl' : j < 21 := hl
  obtain ⟨fuel', d, q, hdi, he⟩ := Lib.array_elem Tryz.underlying170 hd j hl'
  rw [List.getElem?_map, hs] at hdi
  obtain rfl := Option.some.inj hdi
  obtain ⟨s', e0, y0, _⟩ := DataW.trod_string Tryz.underlying9 he
  simp only [Prod.mk.injEq, DataW.lit.injEq, Lit.string.injEq] at y0
  obtain rfl := bytes_of_list y0.1
  rw [c1, Nat.mul_one] at e0
  rw [World.var?_cell hg hvar j, ← Array.getElem?_toList]
  exact one_of_take e0

theorem bi_of_reads {W : World} (h : Lib.VarReads Tryz.prog W "ratline/scope.calledByName" (Lib.tabData .i64 [13, 14, 17, 18, 19, 20])) : W.rangeAt 1 0 biT := by
  obtain ⟨g, t, cs, fuel, p, hg, hty, hvar, hd⟩ := h
  obtain rfl := Option.some.inj ((show Tryz.prog.globalNamed "ratline/scope.calledByName" = some 1 by kernel_rfl).symm.trans hg)
  obtain rfl := Option.some.inj ((show (Tryz.prog.globals[1]?).map (·.type) = some 145 by kernel_rfl).symm.trans hty)
  have hcs := Lib.cells_of_tab Tryz.underlying145 Tryz.underlying3 (by kernel_rfl) (by kernel_rfl) hd
  intro j v hv
  rw [Nat.zero_add, World.var?_cell hg hvar j, ← Array.getElem?_toList, hcs]
  exact hv

theorem er_of_reads {W : World} (h : Lib.VarReads Tryz.prog W "strconv.ErrRange" Rows.laid_strconv_ErrRange) : Er W := by
  obtain ⟨g, t, cs, fuel, p, hg, ht, hv, hd⟩ := h
  obtain rfl := Option.some.inj ((show Tryz.prog.globalNamed "strconv.ErrRange" = some 5 by kernel_rfl).symm.trans hg)
  obtain rfl := Option.some.inj ((show (Tryz.prog.globals[5]?).map (·.type) = some 181 by kernel_rfl).symm.trans ht)
  obtain ⟨fuel', u, v, hcs, _, _⟩ := iface_of_trod Tryz.underlying181 hd
  have h0 := World.var?_cell hg hv 0
  refine ⟨u, v, h0.trans ?_⟩
  obtain rfl : cs = #[.iface u v] := by cases cs; simp_all
  rfl

theorem tbl_of_reads {W : World} (h : Lib.VarReads Tryz.prog W "ratline/ops.names" nmD) (h2 : Lib.VarReads Tryz.prog W "ratline/scope.calledByName" (Lib.tabData .i64 [13, 14, 17, 18, 19, 20])) : Tbl W := by
  refine ⟨bi_of_reads h2, fun j x hx => nm_of_reads h _ _ ?_⟩
  match j, hx with
  | 0, h => obtain rfl := Option.some.inj h; rfl
  | 1, h => obtain rfl := Option.some.inj h; rfl
  | 2, h => obtain rfl := Option.some.inj h; rfl
  | 3, h => obtain rfl := Option.some.inj h; rfl
  | 4, h => obtain rfl := Option.some.inj h; rfl
  | 5, h => obtain rfl := Option.some.inj h; rfl
  | j + 6, h => simp [biL] at h

end Go.Proofs.YtlgdjeiendmniaaGreatDoor

namespace Go.Proofs.YtlgdjeiendmniaaGreatDoor
open Go.RowKit Go.Maps

def shpD (t : Int × Int × Int) : DataW Unit := .agg [.lit (.int .i64 t.1), .lit (.int .i64 t.2.1), .lit (.int .i64 t.2.2)]

theorem shp_of_trod {W : World} {fuel : Nat} {cs : List Value} {q : List MemPlace} (t : Int × Int × Int)
    (h : DataW.trod (fun _ => ()) Tryz.prog W 0 (fun _ => true) false fuel 119 cs = some (shpD t, q)) : ∀ r < 3, cs[r]? = [Value.int .i64 t.1, .int .i64 t.2.1, .int .i64 t.2.2][r]? := by
  obtain ⟨xs, n, rfl, hx, hl, hxl, hall⟩ := DataW.trod_struct Tryz.underlying119 h
  have hd : xs.map (·.1) = [.lit (.int .i64 t.1), .lit (.int .i64 t.2.1), .lit (.int .i64 t.2.2)] := by
    have := congrArg Prod.fst hx
    simpa [shpD] using this.symm
  obtain ⟨x1, x2, x3, rfl⟩ : ∃ x1 x2 x3, xs = [x1, x2, x3] := by
    match xs, hxl with
    | [x1, x2, x3], _ => exact ⟨x1, x2, x3, rfl⟩
  simp only [List.map_cons, List.map_nil, List.cons.injEq, and_true] at hd
  obtain ⟨d1, d2, d3⟩ := hd
  have c1 : Tryz.prog.cellsOf 3 = 1 := by kernel_rfl
  have h1 : DataW.trod (fun _ => ()) Tryz.prog W 0 (fun _ => true) false n 3 ((cs.drop 0).take (Tryz.prog.cellsOf 3)) = some x1 := hall 0 _ rfl
  have h2 : DataW.trod (fun _ => ()) Tryz.prog W 0 (fun _ => true) false n 3 ((cs.drop 1).take (Tryz.prog.cellsOf 3)) = some x2 := hall 1 _ rfl
  have h3 : DataW.trod (fun _ => ()) Tryz.prog W 0 (fun _ => true) false n 3 ((cs.drop 2).take (Tryz.prog.cellsOf 3)) = some x3 := hall 2 _ rfl
  obtain ⟨a, e1, y1, _⟩ := DataW.trod_int Tryz.underlying3 h1
  obtain ⟨b, e2, y2, _⟩ := DataW.trod_int Tryz.underlying3 h2
  obtain ⟨c, e3, y3, _⟩ := DataW.trod_int Tryz.underlying3 h3
  subst y1 y2 y3
  simp only [DataW.lit.injEq, Lit.int.injEq, true_and] at d1 d2 d3
  subst d1 d2 d3
  rw [c1] at e1 e2 e3
  have g1 := one_of_take e1
  have g2 := one_of_take e2
  have g3 := one_of_take e3
  intro r hr
  match r, hr with
  | 0, _ => exact g1
  | 1, _ => exact g2
  | 2, _ => exact g3

theorem shp_of_reads {W : World} (h : Lib.VarReads Tryz.prog W "ratline/gen.shapes" (.agg (shpL.map shpD))) : Shp W := by
  obtain ⟨g, t, cs, fuel, p, hg, hty, hvar, hd⟩ := h
  obtain rfl := Option.some.inj ((show Tryz.prog.globalNamed "ratline/gen.shapes" = some 0 by kernel_rfl).symm.trans hg)
  obtain rfl := Option.some.inj ((show (Tryz.prog.globals[0]?).map (·.type) = some 120 by kernel_rfl).symm.trans hty)
  have c3 : Tryz.prog.cellsOf 119 = 3 := by kernel_rfl
  intro j v hv
  have hj : j < 66 := by
    obtain ⟨hl, _⟩ := List.getElem?_eq_some_iff.1 hv
    exact hl
  obtain ⟨fuel', d, q, hdi, he⟩ := Lib.array_elem Tryz.underlying120 hd (j / 3) (by omega)
  rw [List.getElem?_map] at hdi
  obtain ⟨o, ho, rfl⟩ := Option.map_eq_some_iff.1 hdi
  have h1 := shp_of_trod o he (j % 3) (by omega)
  rw [c3, List.getElem?_take_of_lt (by omega), List.getElem?_drop] at h1
  obtain ⟨k0, k1, k2⟩ := flat3_at shpL (j / 3) o ho
  have hjj : j / 3 * 3 + j % 3 = j := by omega
  rw [hjj] at h1
  have h2 : shpTab[j]? = [Value.int .i64 o.1, .int .i64 o.2.1, .int .i64 o.2.2][j % 3]? := by
    rcases (show j % 3 = 0 ∨ j % 3 = 1 ∨ j % 3 = 2 by omega) with h | h | h
    · rw [h] at hjj ⊢; rw [← hjj]; exact k0
    · rw [h] at hjj ⊢; rw [← hjj]; exact k1
    · rw [h] at hjj ⊢; rw [← hjj]; exact k2
  rw [Nat.zero_add, World.var?_cell hg hvar j, ← Array.getElem?_toList, h1, ← h2, hv]

end Go.Proofs.YtlgdjeiendmniaaGreatDoor
