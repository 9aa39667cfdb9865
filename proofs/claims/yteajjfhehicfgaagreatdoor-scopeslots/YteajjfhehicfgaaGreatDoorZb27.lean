/- All 189 texts. · The law ScopeSlots: any two numbers. · From what a row lists of the package-level variables to what the walks ask of memory: the table of operators, the names of the operations, the six that are called by name, the sentinel of a range error. · Proved here: for any two numbers n, m the Go function ScopeSlots of ratlinelaw6 returns true and leaves the memory that was there as it was; the tables and the two errors that its road may read are as the program's text lays them (the card ties them to it). -/
import Derived.Test.YteajjfhehicfgaaGreatDoorZb18
import Derived.Test.YteajjfhehicfgaaGreatDoorZb19
import Derived.Test.YteajjfhehicfgaaGreatDoorZb20
import Derived.Test.YteajjfhehicfgaaGreatDoorZb21
import Derived.Test.YteajjfhehicfgaaGreatDoorZb22
import Derived.Test.YteajjfhehicfgaaGreatDoorZb23
import Derived.Test.YteajjfhehicfgaaGreatDoorZb24
import Derived.Test.YteajjfhehicfgaaGreatDoorZb25
import Derived.Test.YteajjfhehicfgaaGreatDoorZb26
import Derived.Test.YteajjfhehicfgaaGreatDoorZb17
import Derived.Test.YteajjfhehicfgaaGreatDoorZb13
import Derived.Test.YteajjfhehicfgaaGreatDoorRows
import Derived.Lib.LaidU8
import Derived.LaidMore
import Derived.LaidLaws
import Derived.ProofKit
import Derived.Test.YteajjfhehicfgaaGreatDoorCards
import Derived.Test.YteajjfhehicfgaaGreatDoorTie
import Derived.OpenShut
import Derived.ChangeMaps5
import Derived.Stop.Joined
import Derived.SevenTiedAt
set_option linter.unusedSimpArgs false
set_option linter.unusedVariables false
set_option maxRecDepth 10000

namespace Go.Proofs.YteajjfhehicfgaaGreatDoor

theorem slOk_0 (m : Nat) (h : m < 21) : slOk 0 m = true := by
  match m, h with
  | 0, _ => exact slOk_0_0
  | 1, _ => exact slOk_0_1
  | 2, _ => exact slOk_0_2
  | 3, _ => exact slOk_0_3
  | 4, _ => exact slOk_0_4
  | 5, _ => exact slOk_0_5
  | 6, _ => exact slOk_0_6
  | 7, _ => exact slOk_0_7
  | 8, _ => exact slOk_0_8
  | 9, _ => exact slOk_0_9
  | 10, _ => exact slOk_0_10
  | 11, _ => exact slOk_0_11
  | 12, _ => exact slOk_0_12
  | 13, _ => exact slOk_0_13
  | 14, _ => exact slOk_0_14
  | 15, _ => exact slOk_0_15
  | 16, _ => exact slOk_0_16
  | 17, _ => exact slOk_0_17
  | 18, _ => exact slOk_0_18
  | 19, _ => exact slOk_0_19
  | 20, _ => exact slOk_0_20
  | m + 21, h => exact absurd h (by omega)

theorem slOk_1 (m : Nat) (h : m < 21) : slOk 1 m = true := by
  match m, h with
  | 0, _ => exact slOk_1_0
  | 1, _ => exact slOk_1_1
  | 2, _ => exact slOk_1_2
  | 3, _ => exact slOk_1_3
  | 4, _ => exact slOk_1_4
  | 5, _ => exact slOk_1_5
  | 6, _ => exact slOk_1_6
  | 7, _ => exact slOk_1_7
  | 8, _ => exact slOk_1_8
  | 9, _ => exact slOk_1_9
  | 10, _ => exact slOk_1_10
  | 11, _ => exact slOk_1_11
  | 12, _ => exact slOk_1_12
  | 13, _ => exact slOk_1_13
  | 14, _ => exact slOk_1_14
  | 15, _ => exact slOk_1_15
  | 16, _ => exact slOk_1_16
  | 17, _ => exact slOk_1_17
  | 18, _ => exact slOk_1_18
  | 19, _ => exact slOk_1_19
  | 20, _ => exact slOk_1_20
  | m + 21, h => exact absurd h (by omega)

theorem slOk_2 (m : Nat) (h : m < 21) : slOk 2 m = true := by
  match m, h with
  | 0, _ => exact slOk_2_0
  | 1, _ => exact slOk_2_1
  | 2, _ => exact slOk_2_2
  | 3, _ => exact slOk_2_3
  | 4, _ => exact slOk_2_4
  | 5, _ => exact slOk_2_5
  | 6, _ => exact slOk_2_6
  | 7, _ => exact slOk_2_7
  | 8, _ => exact slOk_2_8
  | 9, _ => exact slOk_2_9
  | 10, _ => exact slOk_2_10
  | 11, _ => exact slOk_2_11
  | 12, _ => exact slOk_2_12
  | 13, _ => exact slOk_2_13
  | 14, _ => exact slOk_2_14
  | 15, _ => exact slOk_2_15
  | 16, _ => exact slOk_2_16
  | 17, _ => exact slOk_2_17
  | 18, _ => exact slOk_2_18
  | 19, _ => exact slOk_2_19
  | 20, _ => exact slOk_2_20
  | m + 21, h => exact absurd h (by omega)

theorem slOk_3 (m : Nat) (h : m < 21) : slOk 3 m = true := by
  match m, h with
  | 0, _ => exact slOk_3_0
  | 1, _ => exact slOk_3_1
  | 2, _ => exact slOk_3_2
  | 3, _ => exact slOk_3_3
  | 4, _ => exact slOk_3_4
  | 5, _ => exact slOk_3_5
  | 6, _ => exact slOk_3_6
  | 7, _ => exact slOk_3_7
  | 8, _ => exact slOk_3_8
  | 9, _ => exact slOk_3_9
  | 10, _ => exact slOk_3_10
  | 11, _ => exact slOk_3_11
  | 12, _ => exact slOk_3_12
  | 13, _ => exact slOk_3_13
  | 14, _ => exact slOk_3_14
  | 15, _ => exact slOk_3_15
  | 16, _ => exact slOk_3_16
  | 17, _ => exact slOk_3_17
  | 18, _ => exact slOk_3_18
  | 19, _ => exact slOk_3_19
  | 20, _ => exact slOk_3_20
  | m + 21, h => exact absurd h (by omega)

theorem slOk_4 (m : Nat) (h : m < 21) : slOk 4 m = true := by
  match m, h with
  | 0, _ => exact slOk_4_0
  | 1, _ => exact slOk_4_1
  | 2, _ => exact slOk_4_2
  | 3, _ => exact slOk_4_3
  | 4, _ => exact slOk_4_4
  | 5, _ => exact slOk_4_5
  | 6, _ => exact slOk_4_6
  | 7, _ => exact slOk_4_7
  | 8, _ => exact slOk_4_8
  | 9, _ => exact slOk_4_9
  | 10, _ => exact slOk_4_10
  | 11, _ => exact slOk_4_11
  | 12, _ => exact slOk_4_12
  | 13, _ => exact slOk_4_13
  | 14, _ => exact slOk_4_14
  | 15, _ => exact slOk_4_15
  | 16, _ => exact slOk_4_16
  | 17, _ => exact slOk_4_17
  | 18, _ => exact slOk_4_18
  | 19, _ => exact slOk_4_19
  | 20, _ => exact slOk_4_20
  | m + 21, h => exact absurd h (by omega)

theorem slOk_5 (m : Nat) (h : m < 21) : slOk 5 m = true := by
  match m, h with
  | 0, _ => exact slOk_5_0
  | 1, _ => exact slOk_5_1
  | 2, _ => exact slOk_5_2
  | 3, _ => exact slOk_5_3
  | 4, _ => exact slOk_5_4
  | 5, _ => exact slOk_5_5
  | 6, _ => exact slOk_5_6
  | 7, _ => exact slOk_5_7
  | 8, _ => exact slOk_5_8
  | 9, _ => exact slOk_5_9
  | 10, _ => exact slOk_5_10
  | 11, _ => exact slOk_5_11
  | 12, _ => exact slOk_5_12
  | 13, _ => exact slOk_5_13
  | 14, _ => exact slOk_5_14
  | 15, _ => exact slOk_5_15
  | 16, _ => exact slOk_5_16
  | 17, _ => exact slOk_5_17
  | 18, _ => exact slOk_5_18
  | 19, _ => exact slOk_5_19
  | 20, _ => exact slOk_5_20
  | m + 21, h => exact absurd h (by omega)

theorem slOk_6 (m : Nat) (h : m < 21) : slOk 6 m = true := by
  match m, h with
  | 0, _ => exact slOk_6_0
  | 1, _ => exact slOk_6_1
  | 2, _ => exact slOk_6_2
  | 3, _ => exact slOk_6_3
  | 4, _ => exact slOk_6_4
  | 5, _ => exact slOk_6_5
  | 6, _ => exact slOk_6_6
  | 7, _ => exact slOk_6_7
  | 8, _ => exact slOk_6_8
  | 9, _ => exact slOk_6_9
  | 10, _ => exact slOk_6_10
  | 11, _ => exact slOk_6_11
  | 12, _ => exact slOk_6_12
  | 13, _ => exact slOk_6_13
  | 14, _ => exact slOk_6_14
  | 15, _ => exact slOk_6_15
  | 16, _ => exact slOk_6_16
  | 17, _ => exact slOk_6_17
  | 18, _ => exact slOk_6_18
  | 19, _ => exact slOk_6_19
  | 20, _ => exact slOk_6_20
  | m + 21, h => exact absurd h (by omega)

theorem slOk_7 (m : Nat) (h : m < 21) : slOk 7 m = true := by
  match m, h with
  | 0, _ => exact slOk_7_0
  | 1, _ => exact slOk_7_1
  | 2, _ => exact slOk_7_2
  | 3, _ => exact slOk_7_3
  | 4, _ => exact slOk_7_4
  | 5, _ => exact slOk_7_5
  | 6, _ => exact slOk_7_6
  | 7, _ => exact slOk_7_7
  | 8, _ => exact slOk_7_8
  | 9, _ => exact slOk_7_9
  | 10, _ => exact slOk_7_10
  | 11, _ => exact slOk_7_11
  | 12, _ => exact slOk_7_12
  | 13, _ => exact slOk_7_13
  | 14, _ => exact slOk_7_14
  | 15, _ => exact slOk_7_15
  | 16, _ => exact slOk_7_16
  | 17, _ => exact slOk_7_17
  | 18, _ => exact slOk_7_18
  | 19, _ => exact slOk_7_19
  | 20, _ => exact slOk_7_20
  | m + 21, h => exact absurd h (by omega)

theorem slOk_8 (m : Nat) (h : m < 21) : slOk 8 m = true := by
  match m, h with
  | 0, _ => exact slOk_8_0
  | 1, _ => exact slOk_8_1
  | 2, _ => exact slOk_8_2
  | 3, _ => exact slOk_8_3
  | 4, _ => exact slOk_8_4
  | 5, _ => exact slOk_8_5
  | 6, _ => exact slOk_8_6
  | 7, _ => exact slOk_8_7
  | 8, _ => exact slOk_8_8
  | 9, _ => exact slOk_8_9
  | 10, _ => exact slOk_8_10
  | 11, _ => exact slOk_8_11
  | 12, _ => exact slOk_8_12
  | 13, _ => exact slOk_8_13
  | 14, _ => exact slOk_8_14
  | 15, _ => exact slOk_8_15
  | 16, _ => exact slOk_8_16
  | 17, _ => exact slOk_8_17
  | 18, _ => exact slOk_8_18
  | 19, _ => exact slOk_8_19
  | 20, _ => exact slOk_8_20
  | m + 21, h => exact absurd h (by omega)

theorem slOk_all (n m : Nat) (hn : n < 9) (hm : m < 21) : slOk n m = true := by
  match n, hn with
  | 0, _ => exact slOk_0 m hm
  | 1, _ => exact slOk_1 m hm
  | 2, _ => exact slOk_2 m hm
  | 3, _ => exact slOk_3 m hm
  | 4, _ => exact slOk_4 m hm
  | 5, _ => exact slOk_5 m hm
  | 6, _ => exact slOk_6 m hm
  | 7, _ => exact slOk_7 m hm
  | 8, _ => exact slOk_8 m hm
  | n + 9, h => exact absurd h (by omega)

end Go.Proofs.YteajjfhehicfgaaGreatDoor

namespace Go.Proofs.YteajjfhehicfgaaGreatDoor
open Go.RowKit Go.Maps

theorem mask16 (a : Int) (k : Nat) (hk : 0 < k) : ∃ n : Nat, (bits .and .i64 a 65535).tmod (k : Int) = n ∧ n < k := by
  have h : ∃ n : Nat, bits .and .i64 a 65535 = n ∧ n ≤ 65535 := by
    refine ⟨(BitVec.ofInt 64 a &&& BitVec.ofInt 64 65535).toNat, ?_, ?_⟩
    · have hl : (BitVec.ofInt 64 a &&& BitVec.ofInt 64 65535).toNat ≤ 65535 := by
        rw [BitVec.toNat_and]; exact Nat.and_le_right
      show IntKind.wrap .i64 ((BitVec.ofInt 64 a &&& BitVec.ofInt 64 65535).toNat : Int) = _
      generalize (BitVec.ofInt 64 a &&& BitVec.ofInt 64 65535).toNat = n at hl
      have e : IntKind.wrap .i64 (n : Int) = if (true && decide ((n : Int) % (18446744073709551616 : Int) ≥ (9223372036854775808 : Int))) = true then (n : Int) % 18446744073709551616 - 18446744073709551616 else (n : Int) % 18446744073709551616 := rfl
      rw [e]
      have : decide ((n : Int) % (18446744073709551616 : Int) ≥ (9223372036854775808 : Int)) = false := by
        rw [decide_eq_false_iff_not]; omega
      rw [this]
      simp only [Bool.and_false, Bool.false_eq_true, if_false]
      omega
    · rw [BitVec.toNat_and]; exact Nat.and_le_right
  obtain ⟨n, hn, _⟩ := h
  refine ⟨n % k, ?_, Nat.mod_lt _ hk⟩
  rw [hn]
  exact (Int.ofNat_tmod n k).symm

theorem slots_walk (a0 a1 : Int) (w : World) (he : Er w) (hO : Opx w) (hT : Tbl w) :
    Calls Tryz.prog 3 #[.int .i64 a0, .int .i64 a1] w fun e w' => e = .returned (.bool true) ∧ Ext w w' := by
  obtain ⟨n, hn, hn1⟩ := mask16 a0 9 (by decide)
  obtain ⟨m, hm, hm1⟩ := mask16 a1 21 (by decide)
  exact slots_walk0 a0 a1 w n m hn hm hn1 hm1 he hO hT slOk_all

end Go.Proofs.YteajjfhehicfgaaGreatDoor

namespace Go.Proofs.YteajjfhehicfgaaGreatDoor
open Go.RowKit Go.Maps

def oprD (o : Opr) : DataW Unit := .agg [.lit (.string o.s.data.toList), .lit (.int .i64 o.lv), .lit (.int .i64 o.k), .lit (.int .i64 o.o)]

theorem bytes_of_list {s t : ByteArray} (h : s.data.toList = t.data.toList) : s = t := by
  cases s; cases t
  simpa using h

theorem one_of_take {cs : List Value} {k : Nat} {v : Value} (h : (cs.drop k).take 1 = [v]) : cs[k]? = some v := by
  have := congrArg (·[0]?) h
  simpa [List.getElem?_take, List.getElem?_drop] using this

theorem opr_of_trod {W : World} {fuel : Nat} {cs : List Value} {q : List MemPlace} (o : Opr)
    (h : DataW.trod (fun _ => ()) Tryz.prog W 0 (fun _ => true) false fuel 151 cs = some (oprD o, q)) : ∀ r < 4, cs[r]? = (oprC o)[r]? := by
  obtain ⟨xs, n, rfl, hx, hl, hxl, hall⟩ := DataW.trod_struct Tryz.underlying151 h
  have hd : xs.map (·.1) = [.lit (.string o.s.data.toList), .lit (.int .i64 o.lv), .lit (.int .i64 o.k), .lit (.int .i64 o.o)] := by
    have := congrArg Prod.fst hx
    simpa [oprD] using this.symm
  obtain ⟨x0, x1, x2, x3, rfl⟩ : ∃ x0 x1 x2 x3, xs = [x0, x1, x2, x3] := by
    match xs, hxl with
    | [x0, x1, x2, x3], _ => exact ⟨x0, x1, x2, x3, rfl⟩
  simp only [List.map_cons, List.map_nil, List.cons.injEq, and_true] at hd
  obtain ⟨d0, d1, d2, d3⟩ := hd
  have c3 : Tryz.prog.cellsOf 9 = 1 := by kernel_rfl
  have c1 : Tryz.prog.cellsOf 3 = 1 := by kernel_rfl
  have h0 : DataW.trod (fun _ => ()) Tryz.prog W 0 (fun _ => true) false n 9 ((cs.drop 0).take (Tryz.prog.cellsOf 9)) = some x0 := hall 0 _ rfl
  have h1 : DataW.trod (fun _ => ()) Tryz.prog W 0 (fun _ => true) false n 3 ((cs.drop 1).take (Tryz.prog.cellsOf 3)) = some x1 := hall 1 _ rfl
  have h2 : DataW.trod (fun _ => ()) Tryz.prog W 0 (fun _ => true) false n 3 ((cs.drop 2).take (Tryz.prog.cellsOf 3)) = some x2 := hall 2 _ rfl
  have h3 : DataW.trod (fun _ => ()) Tryz.prog W 0 (fun _ => true) false n 3 ((cs.drop 3).take (Tryz.prog.cellsOf 3)) = some x3 := hall 3 _ rfl
  obtain ⟨s, e0, y0, _⟩ := DataW.trod_string Tryz.underlying9 h0
  obtain ⟨a, e1, y1, _⟩ := DataW.trod_int Tryz.underlying3 h1
  obtain ⟨b, e2, y2, _⟩ := DataW.trod_int Tryz.underlying3 h2
  obtain ⟨c, e3, y3, _⟩ := DataW.trod_int Tryz.underlying3 h3
  subst y0 y1 y2 y3
  simp only [DataW.lit.injEq, Lit.string.injEq, Lit.int.injEq, true_and] at d0 d1 d2 d3
  obtain rfl := bytes_of_list d0
  subst d1 d2 d3
  rw [c3] at e0
  rw [c1] at e1 e2 e3
  have g0 := one_of_take e0
  have g1 := one_of_take e1
  have g2 := one_of_take e2
  have g3 := one_of_take e3
  intro r hr
  match r, hr with
  | 0, _ => exact g0
  | 1, _ => exact g1
  | 2, _ => exact g2
  | 3, _ => exact g3

theorem opTab_at (i r : Nat) (o : Opr) (h : oprs[i]? = some o) (hr : r < 4) : opTab[i * 4 + r]? = (oprC o)[r]? := by
  match i, h with
  | 0, h => obtain rfl := Option.some.inj h; match r, hr with | 0, _ => rfl | 1, _ => rfl | 2, _ => rfl | 3, _ => rfl
  | 1, h => obtain rfl := Option.some.inj h; match r, hr with | 0, _ => rfl | 1, _ => rfl | 2, _ => rfl | 3, _ => rfl
  | 2, h => obtain rfl := Option.some.inj h; match r, hr with | 0, _ => rfl | 1, _ => rfl | 2, _ => rfl | 3, _ => rfl
  | 3, h => obtain rfl := Option.some.inj h; match r, hr with | 0, _ => rfl | 1, _ => rfl | 2, _ => rfl | 3, _ => rfl
  | 4, h => obtain rfl := Option.some.inj h; match r, hr with | 0, _ => rfl | 1, _ => rfl | 2, _ => rfl | 3, _ => rfl
  | 5, h => obtain rfl := Option.some.inj h; match r, hr with | 0, _ => rfl | 1, _ => rfl | 2, _ => rfl | 3, _ => rfl
  | 6, h => obtain rfl := Option.some.inj h; match r, hr with | 0, _ => rfl | 1, _ => rfl | 2, _ => rfl | 3, _ => rfl
  | 7, h => obtain rfl := Option.some.inj h; match r, hr with | 0, _ => rfl | 1, _ => rfl | 2, _ => rfl | 3, _ => rfl
  | 8, h => obtain rfl := Option.some.inj h; match r, hr with | 0, _ => rfl | 1, _ => rfl | 2, _ => rfl | 3, _ => rfl
  | 9, h => obtain rfl := Option.some.inj h; match r, hr with | 0, _ => rfl | 1, _ => rfl | 2, _ => rfl | 3, _ => rfl
  | 10, h => obtain rfl := Option.some.inj h; match r, hr with | 0, _ => rfl | 1, _ => rfl | 2, _ => rfl | 3, _ => rfl
  | 11, h => obtain rfl := Option.some.inj h; match r, hr with | 0, _ => rfl | 1, _ => rfl | 2, _ => rfl | 3, _ => rfl
  | 12, h => obtain rfl := Option.some.inj h; match r, hr with | 0, _ => rfl | 1, _ => rfl | 2, _ => rfl | 3, _ => rfl
  | 13, h => obtain rfl := Option.some.inj h; match r, hr with | 0, _ => rfl | 1, _ => rfl | 2, _ => rfl | 3, _ => rfl
  | 14, h => obtain rfl := Option.some.inj h; match r, hr with | 0, _ => rfl | 1, _ => rfl | 2, _ => rfl | 3, _ => rfl
  | 15, h => obtain rfl := Option.some.inj h; match r, hr with | 0, _ => rfl | 1, _ => rfl | 2, _ => rfl | 3, _ => rfl
  | i + 16, h => simp [oprs] at h

theorem opx_of_reads {W : World} (h : Lib.VarReads Tryz.prog W "ratline/parse.operators" (.agg (oprs.map oprD))) : Opx W := by
  obtain ⟨g, t, cs, fuel, p, hg, hty, hvar, hd⟩ := h
  obtain rfl := Option.some.inj ((show Tryz.prog.globalNamed "ratline/parse.operators" = some 4 by kernel_rfl).symm.trans hg)
  obtain rfl := Option.some.inj ((show (Tryz.prog.globals[4]?).map (·.type) = some 172 by kernel_rfl).symm.trans hty)
  have c4 : Tryz.prog.cellsOf 151 = 4 := by kernel_rfl
  intro j v hv
  have hj : j < 64 := by
    obtain ⟨hl, _⟩ := List.getElem?_eq_some_iff.1 hv
    exact hl
  obtain ⟨fuel', d, q, hdi, he⟩ := Lib.array_elem Tryz.underlying172 hd (j / 4) (by omega)
  rw [List.getElem?_map] at hdi
  obtain ⟨o, ho, rfl⟩ := Option.map_eq_some_iff.1 hdi
  have h1 := opr_of_trod o he (j % 4) (by omega)
  rw [c4, List.getElem?_take_of_lt (by omega), List.getElem?_drop] at h1
  have h2 := opTab_at (j / 4) (j % 4) o ho (by omega)
  have hjj : j / 4 * 4 + j % 4 = j := by omega
  rw [hjj] at h1 h2
  rw [Nat.zero_add, World.var?_cell hg hvar j, ← Array.getElem?_toList, h1, ← h2, hv]

def nmS : List ByteArray := [⟨#[]⟩, ⟨#[43]⟩, ⟨#[45]⟩, ⟨#[42]⟩, ⟨#[47]⟩, ⟨#[37]⟩, ⟨#[61, 61]⟩, ⟨#[33, 61]⟩, ⟨#[60]⟩, ⟨#[60, 61]⟩, ⟨#[62]⟩, ⟨#[62, 61]⟩, ⟨#[91, 93]⟩, ⟨#[112, 117, 115, 104]⟩, ⟨#[99, 120]⟩, ⟨#[45]⟩, ⟨#[33]⟩, ⟨#[108, 101, 110]⟩, ⟨#[114, 101]⟩, ⟨#[105, 109]⟩, ⟨#[99, 111, 110, 106]⟩]
def nmD : DataW Unit := .agg (nmS.map fun s => .lit (.string s.data.toList))

theorem nm_of_reads {W : World} (h : Lib.VarReads Tryz.prog W "ratline/ops.names" nmD) (j : Nat) (s : ByteArray) (hs : nmS[j]? = some s) : W.cell? ⟨1, j, none⟩ = some (.string s) := by
  obtain ⟨g, t, cs, fuel, p, hg, hty, hvar, hd⟩ := h
  obtain rfl := Option.some.inj ((show Tryz.prog.globalNamed "ratline/ops.names" = some 1 by kernel_rfl).symm.trans hg)
  obtain rfl := Option.some.inj ((show (Tryz.prog.globals[1]?).map (·.type) = some 113 by kernel_rfl).symm.trans hty)
  have c1 : Tryz.prog.cellsOf 9 = 1 := by kernel_rfl
  obtain ⟨hl, _⟩ := List.getElem?_eq_some_iff.1 hs
  have hl' : j < 21 := hl
  obtain ⟨fuel', d, q, hdi, he⟩ := Lib.array_elem Tryz.underlying113 hd j hl'
  rw [List.getElem?_map, hs] at hdi
  obtain rfl := Option.some.inj hdi
  obtain ⟨s', e0, y0, _⟩ := DataW.trod_string Tryz.underlying9 he
  simp only [Prod.mk.injEq, DataW.lit.injEq, Lit.string.injEq] at y0
  obtain rfl := bytes_of_list y0.1
  rw [c1, Nat.mul_one] at e0
  rw [World.var?_cell hg hvar j, ← Array.getElem?_toList]
  exact one_of_take e0

theorem bi_of_reads {W : World} (h : Lib.VarReads Tryz.prog W "ratline/scope.calledByName" (Lib.tabData .i64 [13, 14, 17, 18, 19, 20])) : W.rangeAt 0 0 biT := by
  obtain ⟨g, t, cs, fuel, p, hg, hty, hvar, hd⟩ := h
  obtain rfl := Option.some.inj ((show Tryz.prog.globalNamed "ratline/scope.calledByName" = some 0 by kernel_rfl).symm.trans hg)
  obtain rfl := Option.some.inj ((show (Tryz.prog.globals[0]?).map (·.type) = some 80 by kernel_rfl).symm.trans hty)
  have hcs := Lib.cells_of_tab Tryz.underlying80 Tryz.underlying3 (by kernel_rfl) (by kernel_rfl) hd
  intro j v hv
  rw [Nat.zero_add, World.var?_cell hg hvar j, ← Array.getElem?_toList, hcs]
  exact hv

theorem er_of_reads {W : World} (h : Lib.VarReads Tryz.prog W "strconv.ErrRange" Rows.laid_strconv_ErrRange) : Er W := by
  obtain ⟨g, t, cs, fuel, p, hg, ht, hv, hd⟩ := h
  obtain rfl := Option.some.inj ((show Tryz.prog.globalNamed "strconv.ErrRange" = some 3 by kernel_rfl).symm.trans hg)
  obtain rfl := Option.some.inj ((show (Tryz.prog.globals[3]?).map (·.type) = some 140 by kernel_rfl).symm.trans ht)
  obtain ⟨fuel', u, v, hcs, _, _⟩ := iface_of_trod Tryz.underlying140 hd
  have h0 := World.var?_cell hg hv 0
  refine ⟨u, v, h0.trans ?_⟩
  obtain rfl : cs = #[.iface u v] := by cases cs; simp_all
  rfl

theorem tbl_of_reads {W : World} (h : Lib.VarReads Tryz.prog W "ratline/ops.names" nmD) (h2 : Lib.VarReads Tryz.prog W "ratline/scope.calledByName" (Lib.tabData .i64 [13, 14, 17, 18, 19, 20])) : Tbl W := by
  refine ⟨bi_of_reads h2, fun j x hx => nm_of_reads h _ _ ?_⟩
  match j, hx with
  | 0, h => obtain rfl := Option.some.inj h; rfl
  | 1, h => obtain rfl := Option.some.inj h; rfl
  | 2, h => obtain rfl := Option.some.inj h; rfl
  | 3, h => obtain rfl := Option.some.inj h; rfl
  | 4, h => obtain rfl := Option.some.inj h; rfl
  | 5, h => obtain rfl := Option.some.inj h; rfl
  | j + 6, h => simp [biL] at h

end Go.Proofs.YteajjfhehicfgaaGreatDoor

namespace Go.Proofs.YteajjfhehicfgaaGreatDoor.scopeSlots
open Go.ChangeMaps Go.ChangeShapes Go.WideShapes Go.ChangeAt Go.WideMaps Go.WideElems Go.RowKit

theorem own : ownKnob Tryz.prog.godebug = none := by kernel_rfl

/-- What the row lists. -/
abbrev laid5 : List (String × DataW Unit) := Rows.scopeSlotsRow.laid

theorem door_met (os : Os) (args : Array Value) : laidMetH Tryz.prog laid5 ((World.doorLaid Tryz.prog 4000 os).forCall (fun _ _ => 0) ⟨#[], args, []⟩).memory :=
  laidMetH_of_parts3 (fuel := 8) (laidMet_of_run' 8 (by kernel_rfl) (by kernel_rfl)) (by kernel_rfl) (by kernel_rfl)

/-- What the row lists, met: the sentinel, the operators, the names and the six called by name are as the text lays them. -/
theorem laid_gives {W : World} (h : laidMetH Tryz.prog laid5 W) : Er W ∧ Opx W ∧ Tbl W := by
  rw [MakeChecks.laidMetH_plain _ _ _ (by kernel_rfl)] at h
  refine ⟨er_of_reads (Lib.laidMet.reads h (.tail _ (.tail _ (.tail _ (.head _))))), opx_of_reads (Lib.laidMet.reads h (.tail _ (.tail _ (.tail _ (.tail _ (.tail _ (.head _))))))), tbl_of_reads (Lib.laidMet.reads h (.tail _ (.tail _ (.tail _ (.tail _ (.tail _ (.tail _ (.head _)))))))) (Lib.laidMet.reads h (.tail _ (.tail _ (.tail _ (.tail _ (.tail _ (.tail _ (.tail _ (.head _)))))))))⟩

set_option maxRecDepth 100000 in
theorem lifted (os : Os) (started : os.Started) (H : Type) (enc : TypeId × Value → H) :
    ReturnsInHanded {} Tryz.checked os 3 .any (fun w args => (Rows.scopeSlotsSpec.pre enc Tryz.prog Tryz.f3 [] false w args ∧ laidMetH Tryz.prog laid5 w) ∧ sizedMet enc Tryz.prog Tryz.f3 (OpenSpec.ofChange Rows.scopeSlotsSpec) false w args)
      (Rows.scopeSlotsSpec.post enc Tryz.prog Tryz.f3 false true false false) := by
  refine returnsInHanded_of_change_and (C := Tryz.checked) (X := fun w _ => laidMetH Tryz.prog laid5 w) (fun _ _ _ hh h => h.of_heap hh) own started (by kernel_rfl) Tryz.func3
    (ChangeSpec.witness_shaped (enc := enc) (C := Tryz.checked) (os := os) (X := fun w _ => laidMetH Tryz.prog laid5 w) false (World.doorLaid Tryz.prog 4000 os) #[.int .i64 0, .int .i64 0] 8 rfl (World.shaped_of_RefB (by kernel_rfl) (by kernel_rfl)) (by kernel_rfl) (by kernel_rfl) (by kernel_rfl) (door_met os _)) ?_
  intro W base args ds gs before hval0 hW _ _ hL _
  have hval : ∀ (j : Nat) t v, Tryz.f3.params[j]? = some t → args[j]? = some v → Value.okWide Tryz.prog W .any base t v := hval0
  have hW' := hW
  obtain ⟨p, q, hA0, hV, rfl, hfz, hnd⟩ := hW
  have hA : DataW.TrodAll enc Tryz.prog W 0 (fun _ => true) true Tryz.f3.params.toList args.toList ds p := hA0
  rw [Tryz.params3] at hA hval
  obtain ⟨v0, vs0, d0, ds0, p0, q0, hargs, rfl, rfl, h0, r0⟩ := trodAll_cons hA
  obtain ⟨v1, vs1, d1, ds1, p1, q1, rfl, rfl, rfl, h1, r1⟩ := trodAll_cons r0
  obtain ⟨rfl, rfl, rfl⟩ := trodAll_nil r1
  obtain rfl : args = #[v0, v1] := by cases args; simp_all
  obtain ⟨rfl, rfl⟩ := trodVars_none hV
  obtain ⟨a0, rfl, rfl, rfl, w0⟩ := open_int Tryz.underlying3 (hval 0 3 v0 rfl rfl) h0
  obtain ⟨a1, rfl, rfl, rfl, w1⟩ := open_int Tryz.underlying3 (hval 1 3 v1 rfl rfl) h1
  clear hA0 hval0
  simp only [List.append_nil] at hW'
  refine (slots_walk a0 a1 W (laid_gives hL).1 (laid_gives hL).2.1 (laid_gives hL).2.2).mono fun e W' ⟨he, hg⟩ => ?_
  subst he
  exact ⟨_, rfl, _, _, _, [], [], [], hW', (trodAll_cons_mk (shut_bool Tryz.underlying4 _) trodAll_mk0), (trodAll_cons_mk (shut_int Tryz.underlying3 w0) (trodAll_cons_mk (shut_int Tryz.underlying3 w1) trodAll_mk0)), rfl, Below.frame hg _, fun h => by cases h⟩

theorem said : Rows.ScopeSlotsSaid :=
  OpenClaim.holds_of_wide 3 Tryz.f3 rfl rfl rfl rfl rfl rfl rfl ⟨rfl, rfl, rfl, rfl, rfl⟩ rfl rfl rfl rfl rfl (by kernel_rfl) Tryz.func3 (by kernel_rfl)
    (of_decide_eq_true (by kernel_rfl)) (by unfold Func.isWrapper; first | (rw [if_pos (by decide +kernel)]; kernel_rfl) | (rw [if_neg (by decide +kernel)]; exact ⟨rfl, rfl⟩))
    (fun os started H enc _ => lifted os started H enc)

end Go.Proofs.YteajjfhehicfgaaGreatDoor.scopeSlots
namespace Go.Proofs.YteajjfhehicfgaaGreatDoor
open Go

theorem scopeSlots_card : Rows.ScopeSlotsCardSaid :=
  Claim7.holds_tied_plain_at .later [] [.data, .data, .data, .sentinel, .sentinel, .data, .data, .data] true Rows.scopeSlotsCard.stood.harness true
    scopeSlots.said (fun _ h => by cases h) (by kernel_rfl) (fun _ h => by cases h) scopeSlots_row_tie rfl ⟨rfl, rfl⟩ (by kernel_rfl) rfl
    (fun f fn hf hfn => by
      obtain rfl : f = 3 := Option.some.inj ((show Tryz.prog.funcNamed "ratline/ratlinelaw6.ScopeSlots" = some 3 by kernel_rfl).symm.trans hf) |>.symm
      obtain rfl : fn = Tryz.f3 := (Option.some.inj (Tryz.func3.symm.trans hfn)).symm
      exact ⟨by kernel_rfl, fun j t ht => by
        rw [Tryz.params3] at ht
        have hm : t ∈ [3, 3] := by simpa using Array.mem_of_getElem? ht
        have hall : ([3, 3].all fun u => !Tryz.prog.wantsStandIn u) = true := by kernel_rfl
        exact (show Tryz.prog.wantsStandIn t = false by simpa using List.all_eq_true.1 hall t hm)⟩)
    (by kernel_rfl)
#print axioms scopeSlots_card
end Go.Proofs.YteajjfhehicfgaaGreatDoor
