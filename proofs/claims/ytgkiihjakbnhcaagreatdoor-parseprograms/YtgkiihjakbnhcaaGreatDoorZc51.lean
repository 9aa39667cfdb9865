/- The walk of the law ParsePrograms. · From what a row of layer 5 lists of the package-level variables to what the walks ask of memory: the table of operators, the sentinel of a range error. -/
import Derived.Test.YtgkiihjakbnhcaaGreatDoorZc50
import Derived.Test.YtgkiihjakbnhcaaGreatDoorZc40
import Derived.Test.YtgkiihjakbnhcaaGreatDoorRows
import Derived.Lib.LaidU8
import Derived.LaidMore
import Derived.LaidLaws
import Derived.ProofKit
set_option linter.unusedSimpArgs false
set_option linter.unusedVariables false
set_option maxRecDepth 10000

namespace Go.Proofs.YtgkiihjakbnhcaaGreatDoor
open Go.RowKit

set_option maxHeartbeats 4000000 in
theorem programs_walk (s : ByteArray) (w : World) (hmax : s.size ≤ 9223372036854775807) (he : Er w) (hO : Opx w) :
    Calls Tryz.prog 3 #[.string s] w fun e w' => e = .returned (.bool true) ∧ Ext w w' := by
  have hbl := begP_len s
  have HAw := hide (fun (W : World) (x : Ext w W) => awake5_w W (he.on x) (hO.ext x))
  obtain ⟨q, hq⟩ : ∃ q, q = rdP s 5000 := ⟨_, rfl⟩
  have hB : ∀ p ∈ q.1, p.ps.length ≤ 100000000 ∧ BL p.bd := by rw [hq]; exact rd_bl s 5000 (by omega)
  have hL : q.1.length ≤ 100000000 := by rw [hq]; exact rd_len s 5000
  obtain ⟨P, E, fl, hP⟩ : ∃ (P E : Int) (fl : List PFn), (∀ p ∈ fl, p.ps.length ≤ 100000000 ∧ BL p.bd) ∧ fl.length ≤ 100000000 ∧ P = (if q.2.e = 0 then 0 else q.2.pl) ∧ E = (if q.2.e = 0 then (if tooP q.1 = true then 65 else 0) else q.2.e) ∧ fl = (if q.2.e = 0 ∧ tooP q.1 = false then q.1 else []) := by
    refine ⟨_, _, _, ?_, ?_, rfl, rfl, rfl⟩
    · split
      · exact hB
      · intro p hp; cases hp
    · split
      · exact hL
      · simp
  obtain ⟨hBf, hLf, hP1, hE1, hf1⟩ := hP
  have HEx : Hd (∀ W, Ext w W → Calls Tryz.prog 4 #[.string s] W fun e w' => ∃ a cap, e = .returned (.tuple #[.slice a fl.length cap, .int .i64 P, .int .i64 E]) ∧ RepFL w' (InW w') fl a ∧ Ext W w') := fun W x => by
    refine Calls.mono (program_all s 5000 W (he.on x) (hO.ext x) hmax (by omega) (by omega)) ?_
    rw [← hq]
    rintro e w' ⟨hw, ⟨h9, rfl⟩ | ⟨h9, h8, rfl⟩ | ⟨h9, h8, a, cap, rfl, hcap, hr⟩⟩
    · have e1 : fl = [] := by rw [hf1, if_neg (fun e => h9 e.1)]
      rw [e1]
      exact ⟨none, 0, by rw [hP1, hE1, if_neg h9, if_neg h9]; rfl, Or.inl rfl, hw⟩
    · have e1 : fl = [] := by rw [hf1, if_neg (fun e => by rw [h8] at e; cases e.2)]
      rw [e1]
      exact ⟨none, 0, by rw [hP1, hE1, if_pos h9, if_pos h9, if_pos h8]; rfl, Or.inl rfl, hw⟩
    · have e1 : fl = q.1 := by rw [hf1, if_pos ⟨h9, h8⟩]
      rw [e1]
      exact ⟨a, cap, by rw [hP1, hE1, if_pos h9, if_pos h9, if_neg (by rw [h8]; decide)], hr.to (fun b hb => ⟨hb.2, rfl⟩), hw⟩
  have HRx : Hd (∀ W, Calls Tryz.prog 5 #[.string s] W fun e w' => ∃ a cap, e = .returned (tolV (.slice a fl.length cap) 0 0 emptyB 0 (.slice none 0 0) P E) ∧ RepFL w' (InW w') fl a ∧ Ext W w') := fun W => by
    refine Calls.mono (rprog_any s 5000 W hmax (by omega) (by omega)) ?_
    rw [← hq]
    rintro e w' ⟨hw, ⟨h9, rfl⟩ | ⟨h9, h8, rfl⟩ | ⟨h9, h8, a, cap, rfl, hcap, hr⟩⟩
    · have e1 : fl = [] := by rw [hf1, if_neg (fun e => h9 e.1)]
      rw [e1]
      exact ⟨none, 0, by rw [hP1, hE1, if_neg h9, if_neg h9]; rfl, Or.inl rfl, hw⟩
    · have e1 : fl = [] := by rw [hf1, if_neg (fun e => by rw [h8] at e; cases e.2)]
      rw [e1]
      exact ⟨none, 0, by rw [hP1, hE1, if_pos h9, if_pos h9, if_pos h8]; rfl, Or.inl rfl, hw⟩
    · have e1 : fl = q.1 := by rw [hf1, if_pos ⟨h9, h8⟩]
      rw [e1]
      exact ⟨a, cap, by rw [hP1, hE1, if_pos h9, if_pos h9, if_neg (by rw [h8]; decide)], hr, hw⟩
  have HSm := hide (fun (a b : Option Addr) (ca cb : Nat) (W : World) (h1 : RepFL W (InW W) fl a) (h2 : RepFL W (InW W) fl b) => rsameF_bl fl hBf a b ca cb W h1 h2 hLf)
  clear he hO hP1 hE1 hf1 hBf hLf hB hL hq hbl
  generalize fl.length = N at *
  go_enter Tryz.func3, Tryz.ntmps3
  go_wp2_with (first
    | (go_at_call 4; refine Calls.mono (unhide HEx _ (Ext.refl _)) ?_; rintro e w1 ⟨a1, c1, rfl, hr, hw⟩; have X1 := hide hw; have U1 := hide hr; clear hw hr)
    | (go_at_call 5; refine Calls.mono (unhide HRx _) ?_; rintro e w2 ⟨a2, c2, rfl, hr, hw⟩; have X2 := hide ((unhide X1).trans hw); have U1b := hide ((unhide U1).inw hw); have U2 := hide hr; clear hw hr)
    | (have T9 := unhide X2; go_at_call 6; refine Calls.mono (unhide HSm _ _ _ _ _ ((unhide U1b).inw (Ext.alloc _ _)) ((unhide U2).inw (Ext.alloc _ _))) ?_; rintro e w3 ⟨rfl, hw⟩; have X3 := hide ((T9.trans (Ext.alloc _ _)).trans hw); have RT := hide (hw.row (Go.heap_alloc_new w2 (tolO (.slice a2 N c2) 0 0 emptyB 0 (.slice none 0 0) P E))); have t0 := rowC (unhide RT) 0 rfl; have t1 := rowC (unhide RT) 1 rfl; have t2 := rowC (unhide RT) 2 rfl; have t3 := rowC (unhide RT) 3 rfl; have t4 := rowC (unhide RT) 4 rfl; have t5 := rowC (unhide RT) 5 rfl; have t6 := rowC (unhide RT) 6 rfl; have t7 := rowC (unhide RT) 7 rfl; clear hw T9)
    | (have T9 := unhide X3; go_at_call 7; refine Calls.mono (unhide HAw _ T9) ?_; rintro e w4 ⟨rfl, hw⟩; have X4 := hide (T9.trans hw); clear hw T9))
  go_ret
  exact ⟨rfl, unhide X4⟩

end Go.Proofs.YtgkiihjakbnhcaaGreatDoor

namespace Go.Proofs.YtgkiihjakbnhcaaGreatDoor
open Go.RowKit

def oprD (o : Opr) : DataW Unit := .agg [.lit (.string o.s.data.toList), .lit (.int .i64 o.lv), .lit (.int .i64 o.k), .lit (.int .i64 o.o)]

theorem bytes_of_list {s t : ByteArray} (h : s.data.toList = t.data.toList) : s = t := by
  cases s; cases t
  simpa using h

theorem one_of_take {cs : List Value} {k : Nat} {v : Value} (h : (cs.drop k).take 1 = [v]) : cs[k]? = some v := by
  have := congrArg (·[0]?) h
  simpa [List.getElem?_take, List.getElem?_drop] using this

theorem opr_of_trod {W : World} {fuel : Nat} {cs : List Value} {q : List MemPlace} (o : Opr)
    (h : DataW.trod (fun _ => ()) Tryz.prog W 0 (fun _ => true) false fuel 87 cs = some (oprD o, q)) : ∀ r < 4, cs[r]? = (oprC o)[r]? := by
  obtain ⟨xs, n, rfl, hx, hl, hxl, hall⟩ := DataW.trod_struct Tryz.underlying87 h
  have hd : xs.map (·.1) = [.lit (.string o.s.data.toList), .lit (.int .i64 o.lv), .lit (.int .i64 o.k), .lit (.int .i64 o.o)] := by
    have := congrArg Prod.fst hx
    simpa [oprD] using this.symm
  obtain ⟨x0, x1, x2, x3, rfl⟩ : ∃ x0 x1 x2 x3, xs = [x0, x1, x2, x3] := by
    match xs, hxl with
    | [x0, x1, x2, x3], _ => exact ⟨x0, x1, x2, x3, rfl⟩
  simp only [List.map_cons, List.map_nil, List.cons.injEq, and_true] at hd
  obtain ⟨d0, d1, d2, d3⟩ := hd
  have c3 : Tryz.prog.cellsOf 9 = 1 := by kernel_rfl
  have c1 : Tryz.prog.cellsOf 3 = 1 := by kernel_rfl
  have h0 : DataW.trod (fun _ => ()) Tryz.prog W 0 (fun _ => true) false n 9 ((cs.drop 0).take (Tryz.prog.cellsOf 9)) = some x0 := hall 0 _ rfl
  have h1 : DataW.trod (fun _ => ()) Tryz.prog W 0 (fun _ => true) false n 3 ((cs.drop 1).take (Tryz.prog.cellsOf 3)) = some x1 := hall 1 _ rfl
  have h2 : DataW.trod (fun _ => ()) Tryz.prog W 0 (fun _ => true) false n 3 ((cs.drop 2).take (Tryz.prog.cellsOf 3)) = some x2 := hall 2 _ rfl
  have h3 : DataW.trod (fun _ => ()) Tryz.prog W 0 (fun _ => true) false n 3 ((cs.drop 3).take (Tryz.prog.cellsOf 3)) = some x3 := hall 3 _ rfl
  obtain ⟨s, e0, y0, _⟩ := DataW.trod_string Tryz.underlying9 h0
  obtain ⟨a, e1, y1, _⟩ := DataW.trod_int Tryz.underlying3 h1
  obtain ⟨b, e2, y2, _⟩ := DataW.trod_int Tryz.underlying3 h2
  obtain ⟨c, e3, y3, _⟩ := DataW.trod_int Tryz.underlying3 h3
  subst y0 y1 y2 y3
  simp only [DataW.lit.injEq, Lit.string.injEq, Lit.int.injEq, true_and] at d0 d1 d2 d3
  obtain rfl := bytes_of_list d0
  subst d1 d2 d3
  rw [c3] at e0
  rw [c1] at e1 e2 e3
  have g0 := one_of_take e0
  have g1 := one_of_take e1
  have g2 := one_of_take e2
  have g3 := one_of_take e3
  intro r hr
  match r, hr with
  | 0, _ => exact g0
  | 1, _ => exact g1
  | 2, _ => exact g2
  | 3, _ => exact g3

theorem opTab_at (i r : Nat) (o : Opr) (h : oprs[i]? = some o) (hr : r < 4) : opTab[i * 4 + r]? = (oprC o)[r]? := by
  match i, h with
  | 0, h => obtain rfl := Option.some.inj h; match r, hr with | 0, _ => rfl | 1, _ => rfl | 2, _ => rfl | 3, _ => rfl
  | 1, h => obtain rfl := Option.some.inj h; match r, hr with | 0, _ => rfl | 1, _ => rfl | 2, _ => rfl | 3, _ => rfl
  | 2, h => obtain rfl := Option.some.inj h; match r, hr with | 0, _ => rfl | 1, _ => rfl | 2, _ => rfl | 3, _ => rfl
  | 3, h => obtain rfl := Option.some.inj h; match r, hr with | 0, _ => rfl | 1, _ => rfl | 2, _ => rfl | 3, _ => rfl
  | 4, h => obtain rfl := Option.some.inj h; match r, hr with | 0, _ => rfl | 1, _ => rfl | 2, _ => rfl | 3, _ => rfl
  | 5, h => obtain rfl := Option.some.inj h; match r, hr with | 0, _ => rfl | 1, _ => rfl | 2, _ => rfl | 3, _ => rfl
  | 6, h => obtain rfl := Option.some.inj h; match r, hr with | 0, _ => rfl | 1, _ => rfl | 2, _ => rfl | 3, _ => rfl
  | 7, h => obtain rfl := Option.some.inj h; match r, hr with | 0, _ => rfl | 1, _ => rfl | 2, _ => rfl | 3, _ => rfl
  | 8, h => obtain rfl := Option.some.inj h; match r, hr with | 0, _ => rfl | 1, _ => rfl | 2, _ => rfl | 3, _ => rfl
  | 9, h => obtain rfl := Option.some.inj h; match r, hr with | 0, _ => rfl | 1, _ => rfl | 2, _ => rfl | 3, _ => rfl
  | 10, h => obtain rfl := Option.some.inj h; match r, hr with | 0, _ => rfl | 1, _ => rfl | 2, _ => rfl | 3, _ => rfl
  | 11, h => obtain rfl := Option.some.inj h; match r, hr with | 0, _ => rfl | 1, _ => rfl | 2, _ => rfl | 3, _ => rfl
  | 12, h => obtain rfl := Option.some.inj h; match r, hr with | 0, _ => rfl | 1, _ => rfl | 2, _ => rfl | 3, _ => rfl
  | 13, h => obtain rfl := Option.some.inj h; match r, hr with | 0, _ => rfl | 1, _ => rfl | 2, _ => rfl | 3, _ => rfl
  | 14, h => obtain rfl := Option.some.inj h; match r, hr with | 0, _ => rfl | 1, _ => rfl | 2, _ => rfl | 3, _ => rfl
  | 15, h => obtain rfl := Option.some.inj h; match r, hr with | 0, _ => rfl | 1, _ => rfl | 2, _ => rfl | 3, _ => rfl
  | i + 16, h => simp [oprs] at h

theorem opx_of_reads {W : World} (h : Lib.VarReads Tryz.prog W "ratline/parse.operators" (.agg (oprs.map oprD))) : Opx W := by
  obtain ⟨g, t, cs, fuel, p, hg, hty, hvar, hd⟩ := h
  obtain rfl := Option.some.inj ((show Tryz.prog.globalNamed "ratline/parse.operators" = some 0 by kernel_rfl).symm.trans hg)
  obtain rfl := Option.some.inj ((show (Tryz.prog.globals[0]?).map (·.type) = some 117 by kernel_rfl).symm.trans hty)
  have c4 : Tryz.prog.cellsOf 87 = 4 := by kernel_rfl
  intro j v hv
  have hj : j < 64 := by
    obtain ⟨hl, _⟩ := List.getElem?_eq_some_iff.1 hv
    exact hl
  obtain ⟨fuel', d, q, hdi, he⟩ := Lib.array_elem Tryz.underlying117 hd (j / 4) (by omega)
  rw [List.getElem?_map] at hdi
  obtain ⟨o, ho, rfl⟩ := Option.map_eq_some_iff.1 hdi
  have h1 := opr_of_trod o he (j % 4) (by omega)
  rw [c4, List.getElem?_take_of_lt (by omega), List.getElem?_drop] at h1
  have h2 := opTab_at (j / 4) (j % 4) o ho (by omega)
  have hjj : j / 4 * 4 + j % 4 = j := by omega
  rw [hjj] at h1 h2
  rw [Nat.zero_add, World.var?_cell hg hvar j, ← Array.getElem?_toList, h1, ← h2, hv]

theorem er_of_reads {W : World} (h : Lib.VarReads Tryz.prog W "strconv.ErrRange" Rows.laid_strconv_ErrRange) : Er W := by
  obtain ⟨g, t, cs, fuel, p, hg, ht, hv, hd⟩ := h
  obtain rfl := Option.some.inj ((show Tryz.prog.globalNamed "strconv.ErrRange" = some 3 by kernel_rfl).symm.trans hg)
  obtain rfl := Option.some.inj ((show (Tryz.prog.globals[3]?).map (·.type) = some 106 by kernel_rfl).symm.trans ht)
  obtain ⟨fuel', u, v, hcs, _, _⟩ := iface_of_trod Tryz.underlying106 hd
  have h0 := World.var?_cell hg hv 0
  refine ⟨u, v, h0.trans ?_⟩
  obtain rfl : cs = #[.iface u v] := by cases cs; simp_all
  rfl

end Go.Proofs.YtgkiihjakbnhcaaGreatDoor
