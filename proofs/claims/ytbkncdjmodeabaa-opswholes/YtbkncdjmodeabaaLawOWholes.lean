/- The walk of the law OpsWholes: whole numbers wrap, divide towards nought, and are told by their order; a list grows by what is pushed. -/
import Derived.Test.YtbkncdjmodeabaaOpsRegs
import Derived.Deep.DeepCutAuto
set_option linter.unusedSimpArgs false
set_option linter.unusedVariables false
set_option maxRecDepth 10000
namespace Go.Proofs.Ytbkncdjmodeabaa
open Go.RowKit

theorem bin_get2 (j : Nat) (hj : j ≤ 15) (a : Option Addr) (c : Nat) (w : World) (hl : RepL w (In w) (ints (j + 1)) a) (hc : j + 1 ≤ c) :
    Calls Try.prog 6 #[.int .i64 12, .agg #[.int .i64 4, .int .i64 0, .complex .f64 0 0, .string ⟨#[]⟩, .slice a (j + 1) c], .agg #[.int .i64 1, .int .i64 (j : Int), .complex .f64 0 0, .string ⟨#[]⟩, .slice none 0 0]] w
      fun e w' => ∃ a3 c3, e = .returned (.tuple #[.agg #[.int .i64 1, .int .i64 (j : Int), .complex .f64 0 0, .string ⟨#[]⟩, .slice a3 0 c3], .int .i64 0]) ∧ Ext w w' := by
  refine Calls.mono (bin_get j hj a c w hl hc) ?_
  rintro e w' ⟨r, rfl, hr, hw⟩
  rw [it, Rep] at hr
  obtain ⟨a3, c3, rfl, -, -⟩ := hr
  exact ⟨a3, c3, rfl, hw⟩

theorem LI.next2 {w wr wx w4 : World} {g j gN : Nat} {a2 : Option Addr} {c2 : Nat} (h : LI w wr g j) (hN : Nx wr wx gN j a2 c2) (h4 : Ext wx w4) :
    LI w (set5 w4 g 4 0 0 0 ⟨#[]⟩ a2 (j + 1) c2) g (j + 1) := by
  obtain ⟨ap, cp, hrow, _, _⟩ := h.row
  have hlt : g < wr.heap.size := (Array.getElem?_eq_some_iff.1 hrow).1
  have h14 := hN.ext.trans h4
  refine ⟨set5_ext (h.ext.trans h14) g h.hg _ _ _ _ _ _ _ _, h.hg, a2, c2, ?_, ?_, hN.le⟩
  · unfold set5
    rw [row_set (row_set (row_set (row_set (row_set (h14.row hrow) _ _) _ _) _ _) _ _) _ _]
    rfl
  · have hs := set5_size w4 g 4 0 0 0 ⟨#[]⟩ a2 (j + 1) c2
    refine RepL.to (fun b hb => ⟨⟨?fa, ?fb⟩, ?fc⟩) _ _ hN.rl
    case fa => rw [hs]; exact Nat.lt_of_lt_of_le hb.2.1 h4.le
    case fb => have := hb.1; omega
    case fc =>
      rw [set5_other w4 g b (by have := hb.1; omega)]
      exact h4.block b hb.2.1

set_option maxHeartbeats 4000000 in
theorem owholes_zero (a b n : Int) (w : World) (h1 : -9223372036854775808 ≤ a) (h2 : a ≤ 9223372036854775807) (h3 : -9223372036854775808 ≤ b) (h4 : b ≤ 9223372036854775807) (h0 : b = 0) :
    Calls Try.prog 3 #[.int .i64 a, .int .i64 b, .int .i64 n] w fun e w' => e = .returned (.bool true) ∧ Ext w w' := by
  have BA := hide (fun W => bin_add a b none none 0 0 W h1 h2 h3 h4)
  have BS := hide (fun ad c W => wrap_back a b h1 h2 ▸ bin_sub (wrap64 (a + b)) b ad none c 0 W (wrap_lo _) (wrap_hi _) h3 h4)
  have BL := hide (fun W => bin_lt a b none none 0 0 W h1 h2 h3 h4 _ rfl)
  have BD := hide (fun W => bin_divz a b none none 0 0 W h1 h2 h3 h4 h0)
  have BM := hide (fun W => bin_modz a b none none 0 0 W h1 h2 h3 h4 h0)
  have HZ := hide h0
  clear h1 h2 h3 h4 h0
  by_cases hab : a < b
  all_goals
    first | (rw [decide_eq_true hab, if_pos rfl] at BL) | (rw [decide_eq_false hab, if_neg (by decide)] at BL)
    go_enter Try.func3, Try.ntmps3
    go_wp2_with (first
    | (go_at_call 6; have U := unhide V6; refine Calls.mono (unhide BM _) ?_; rintro e w7 ⟨r7, rfl, hr7, hw7⟩; rw [nilP, Rep] at hr7; obtain ⟨a7, c7, rfl, -, -⟩ := hr7; have fQn := (Five.new w6 25 0 0 0 0 ⟨#[]⟩ a6 0 c6).on hw7; have q0 := fQn.c0; have q1 := fQn.c1; have q2 := fQn.c2; have q3 := fQn.c3; have q4 := fQn.c4; have ltQ : w6.heap.size < w7.heap.size := World.block_lt_of_cell? w7 ⟨w6.heap.size, 0, none⟩ fQn.c0; have Q7 := hide fQn; clear fQn; have fX := (unhide X6).on ((Ext.alloc _ _).trans hw7); have fY := (unhide Y6).on ((Ext.alloc _ _).trans hw7); have V7 := hide ((unhide V6).trans ((Ext.alloc _ _).trans hw7)); clear x0 x1 x2 x3 x4; have x0 := fX.c0; have x1 := fX.c1; have x2 := fX.c2; have x3 := fX.c3; have x4 := fX.c4; have X7 := hide fX; clear fX; clear y0 y1 y2 y3 y4; have y0 := fY.c0; have y1 := fY.c1; have y2 := fY.c2; have y3 := fY.c3; have y4 := fY.c4; have Y7 := hide fY; clear fY; have ltX7 := Nat.lt_trans ltX6 ltQ; have ltY7 := Nat.lt_of_succ_lt ltX7; have hz0 := unhide HZ; clear hw7 U)
    | (go_at_call 6; have U := unhide V5; refine Calls.mono (unhide BD _) ?_; rintro e w6 ⟨r6, rfl, hr6, hw6⟩; rw [nilP, Rep] at hr6; obtain ⟨a6, c6, rfl, -, -⟩ := hr6; have fLn := (Five.new w5 25 1 _ 0 0 ⟨#[]⟩ a5 0 c5).on hw6; have l0 := fLn.c0; have l1 := fLn.c1; have l2 := fLn.c2; have l3 := fLn.c3; have l4 := fLn.c4; have ltL : w5.heap.size < w6.heap.size := World.block_lt_of_cell? w6 ⟨w5.heap.size, 0, none⟩ fLn.c0; have L6 := hide fLn; clear fLn; have fX := (unhide X5).on ((Ext.alloc _ _).trans hw6); have fY := (unhide Y5).on ((Ext.alloc _ _).trans hw6); have fS := (unhide S5).on ((Ext.alloc _ _).trans hw6); have fD := (unhide D5).on ((Ext.alloc _ _).trans hw6); have V6 := hide ((unhide V5).trans ((Ext.alloc _ _).trans hw6)); clear x0 x1 x2 x3 x4; have x0 := fX.c0; have x1 := fX.c1; have x2 := fX.c2; have x3 := fX.c3; have x4 := fX.c4; have X6 := hide fX; clear fX; clear y0 y1 y2 y3 y4; have y0 := fY.c0; have y1 := fY.c1; have y2 := fY.c2; have y3 := fY.c3; have y4 := fY.c4; have Y6 := hide fY; clear fY; clear s0 s1 s2 s3 s4; have s0 := fS.c0; have s1 := fS.c1; have s2 := fS.c2; have s3 := fS.c3; have s4 := fS.c4; have S6 := hide fS; clear fS; clear d0 d1 d2 d3 d4; have d0 := fD.c0; have d1 := fD.c1; have d2 := fD.c2; have d3 := fD.c3; have d4 := fD.c4; have D6 := hide fD; clear fD; have ltX6 := Nat.lt_trans ltX5 ltL; have ltY6 := Nat.lt_of_succ_lt ltX6; clear hw6 U)
    | (go_at_call 6; have U := unhide V4; refine Calls.mono (unhide BL _) ?_; rintro e w5 ⟨r5, rfl, hr5, hw5⟩; rw [it, Rep] at hr5; obtain ⟨a5, c5, rfl, -, -⟩ := hr5; have fDn := (Five.new w4 25 1 a 0 0 ⟨#[]⟩ a4 0 c4).on hw5; have d0 := fDn.c0; have d1 := fDn.c1; have d2 := fDn.c2; have d3 := fDn.c3; have d4 := fDn.c4; have ltD : w4.heap.size < w5.heap.size := World.block_lt_of_cell? w5 ⟨w4.heap.size, 0, none⟩ fDn.c0; have D5 := hide fDn; clear fDn; have fX := (unhide X4).on ((Ext.alloc _ _).trans hw5); have fY := (unhide Y4).on ((Ext.alloc _ _).trans hw5); have fS := (unhide S4).on ((Ext.alloc _ _).trans hw5); have V5 := hide ((unhide V4).trans ((Ext.alloc _ _).trans hw5)); clear x0 x1 x2 x3 x4; have x0 := fX.c0; have x1 := fX.c1; have x2 := fX.c2; have x3 := fX.c3; have x4 := fX.c4; have X5 := hide fX; clear fX; clear y0 y1 y2 y3 y4; have y0 := fY.c0; have y1 := fY.c1; have y2 := fY.c2; have y3 := fY.c3; have y4 := fY.c4; have Y5 := hide fY; clear fY; clear s0 s1 s2 s3 s4; have s0 := fS.c0; have s1 := fS.c1; have s2 := fS.c2; have s3 := fS.c3; have s4 := fS.c4; have S5 := hide fS; clear fS; have ltX5 := Nat.lt_trans ltX4 ltD; have ltY5 := Nat.lt_of_succ_lt ltX5; have ltS5 := Nat.lt_trans ltS ltD; clear hw5 U)
    | (go_at_call 6; have U := unhide V3; refine Calls.mono (unhide BS _ _ _) ?_; rintro e w4 ⟨r4, rfl, hr4, hw4⟩; rw [it, Rep] at hr4; obtain ⟨a4, c4, rfl, -, -⟩ := hr4; have fSn := (Five.new w3 25 1 (wrap64 (a + b)) 0 0 ⟨#[]⟩ a3 0 c3).on hw4; have s0 := fSn.c0; have s1 := fSn.c1; have s2 := fSn.c2; have s3 := fSn.c3; have s4 := fSn.c4; have ltS : w3.heap.size < w4.heap.size := World.block_lt_of_cell? w4 ⟨w3.heap.size, 0, none⟩ fSn.c0; have S4 := hide fSn; clear fSn; have fX := (unhide X3).on ((Ext.alloc _ _).trans hw4); have fY := (unhide Y3).on ((Ext.alloc _ _).trans hw4); have V4 := hide ((unhide V3).trans ((Ext.alloc _ _).trans hw4)); clear x0 x1 x2 x3 x4; have x0 := fX.c0; have x1 := fX.c1; have x2 := fX.c2; have x3 := fX.c3; have x4 := fX.c4; have X4 := hide fX; clear fX; clear y0 y1 y2 y3 y4; have y0 := fY.c0; have y1 := fY.c1; have y2 := fY.c2; have y3 := fY.c3; have y4 := fY.c4; have Y4 := hide fY; clear fY; have ltX4 := Nat.lt_trans ltX ltS; have ltY4 := Nat.lt_of_succ_lt ltX4; clear hw4 U)
    | (go_at_call 6; have U := unhide V2; refine Calls.mono (unhide BA _) ?_; rintro e w3 ⟨r3, rfl, hr3, hw3⟩; rw [it, Rep] at hr3; obtain ⟨a3, c3, rfl, -, -⟩ := hr3; have fY := (Five.new _ _ _ _ _ _ _ _ _ _).on hw3; have fX := (Five.new _ _ _ _ _ _ _ _ _ _).on ((Ext.alloc _ _).trans hw3); simp only [heap_alloc_size] at fY; have x0 := fX.c0; have x1 := fX.c1; have x2 := fX.c2; have x3 := fX.c3; have x4 := fX.c4; have y0 := fY.c0; have y1 := fY.c1; have y2 := fY.c2; have y3 := fY.c3; have y4 := fY.c4; have ltX : w2.heap.size + 1 < w3.heap.size := World.block_lt_of_cell? w3 ⟨w2.heap.size + 1, 0, none⟩ fY.c0; have X3 := hide fX; have Y3 := hide fY; have V3 := hide ((unhide V2).trans (((Ext.alloc _ _).trans (Ext.alloc _ _)).trans hw3)); clear fX fY hw3 U)
    | (go_at_call 5; have U := unhide V1; refine Calls.mono (rint_any _ _) ?_; rintro e w2 ⟨rfl, hw2⟩; have V2 := hide ((unhide V1).trans hw2); clear hw2 U)
    | (go_at_call 5; refine Calls.mono (rint_any _ _) ?_; rintro e w1 ⟨rfl, hw1⟩; have V1 := hide hw1; clear hw1)
    | (go_at_call 7; refine Calls.mono (oawake_any _) ?_; rintro e w9 ⟨rfl, hw9⟩; have V9 := hide (((unhide V7).trans (Ext.alloc _ _)).trans hw9); clear hw9))
    go_ret
    exact ⟨rfl, unhide V9⟩

set_option maxHeartbeats 4000000 in
theorem owholes_non (a b n : Int) (w : World) (h1 : -9223372036854775808 ≤ a) (h2 : a ≤ 9223372036854775807) (h3 : -9223372036854775808 ≤ b) (h4 : b ≤ 9223372036854775807) (h0 : ¬ b = 0) :
    Calls Try.prog 3 #[.int .i64 a, .int .i64 b, .int .i64 n] w fun e w' => e = .returned (.bool true) ∧ Ext w w' := by
  have BA := hide (fun W => bin_add a b none none 0 0 W h1 h2 h3 h4)
  have BS := hide (fun ad c W => wrap_back a b h1 h2 ▸ bin_sub (wrap64 (a + b)) b ad none c 0 W (wrap_lo _) (wrap_hi _) h3 h4)
  obtain ⟨t, ht⟩ : ∃ t : Int, t = if decide (a < b) then 1 else 0 := ⟨_, rfl⟩
  have BL := hide (fun W => ht ▸ bin_lt a b none none 0 0 W h1 h2 h3 h4 _ rfl)
  have HT : Hd ((t = 1 ∧ a < b) ∨ (t = 0 ∧ ¬ a < b)) := by
    show (t = 1 ∧ a < b) ∨ (t = 0 ∧ ¬ a < b)
    rw [ht]
    by_cases hab : a < b <;> simp [hab]
  clear ht
  have BD := hide (fun W => bin_div a b none none 0 0 W h1 h2 h3 h4 h0)
  have HQM := hide (quo_back a b h1 h2)
  have HM1 : Hd (0 ≤ a → ¬ a.tmod b < 0) := fun h => by have := (mod_sign a b).1 h; omega
  have HM2 : Hd (a ≤ 0 → ¬ 0 < a.tmod b) := fun h => by have := (mod_sign a b).2 h; omega
  have BM := hide (fun W => bin_mod a b none none 0 0 W h1 h2 h3 h4 h0 (by have := mod_le a b; have := mod_sign a b; omega) (by have := mod_le a b; have := mod_sign a b; omega))
  obtain ⟨m, hm15, hm⟩ := mask15 n
  generalize wrap64 (a.tdiv b) = qv at BD HQM
  generalize a.tmod b = mv at BM HQM HM1 HM2
  clear h1 h2 h3 h4
  go_enter Try.func3, Try.ntmps3
  go_upto_region 5 with (first
    | (go_at_call 6; have U := unhide V4; refine Calls.mono (unhide BL _) ?_; rintro e w5 ⟨r5, rfl, hr5, hw5⟩; rw [it, Rep] at hr5; obtain ⟨a5, c5, rfl, -, -⟩ := hr5; have fDn := (Five.new w4 25 1 a 0 0 ⟨#[]⟩ a4 0 c4).on hw5; have d0 := fDn.c0; have d1 := fDn.c1; have d2 := fDn.c2; have d3 := fDn.c3; have d4 := fDn.c4; have ltD : w4.heap.size < w5.heap.size := World.block_lt_of_cell? w5 ⟨w4.heap.size, 0, none⟩ fDn.c0; have D5 := hide fDn; clear fDn; have fX := (unhide X4).on ((Ext.alloc _ _).trans hw5); have fY := (unhide Y4).on ((Ext.alloc _ _).trans hw5); have fS := (unhide S4).on ((Ext.alloc _ _).trans hw5); have V5 := hide ((unhide V4).trans ((Ext.alloc _ _).trans hw5)); clear x0 x1 x2 x3 x4; have x0 := fX.c0; have x1 := fX.c1; have x2 := fX.c2; have x3 := fX.c3; have x4 := fX.c4; have X5 := hide fX; clear fX; clear y0 y1 y2 y3 y4; have y0 := fY.c0; have y1 := fY.c1; have y2 := fY.c2; have y3 := fY.c3; have y4 := fY.c4; have Y5 := hide fY; clear fY; clear s0 s1 s2 s3 s4; have s0 := fS.c0; have s1 := fS.c1; have s2 := fS.c2; have s3 := fS.c3; have s4 := fS.c4; have S5 := hide fS; clear fS; have ltX5 := Nat.lt_trans ltX4 ltD; have ltY5 := Nat.lt_of_succ_lt ltX5; have ltS5 := Nat.lt_trans ltS ltD; clear hw5 U)
    | (go_at_call 6; have U := unhide V3; refine Calls.mono (unhide BS _ _ _) ?_; rintro e w4 ⟨r4, rfl, hr4, hw4⟩; rw [it, Rep] at hr4; obtain ⟨a4, c4, rfl, -, -⟩ := hr4; have fSn := (Five.new w3 25 1 (wrap64 (a + b)) 0 0 ⟨#[]⟩ a3 0 c3).on hw4; have s0 := fSn.c0; have s1 := fSn.c1; have s2 := fSn.c2; have s3 := fSn.c3; have s4 := fSn.c4; have ltS : w3.heap.size < w4.heap.size := World.block_lt_of_cell? w4 ⟨w3.heap.size, 0, none⟩ fSn.c0; have S4 := hide fSn; clear fSn; have fX := (unhide X3).on ((Ext.alloc _ _).trans hw4); have fY := (unhide Y3).on ((Ext.alloc _ _).trans hw4); have V4 := hide ((unhide V3).trans ((Ext.alloc _ _).trans hw4)); clear x0 x1 x2 x3 x4; have x0 := fX.c0; have x1 := fX.c1; have x2 := fX.c2; have x3 := fX.c3; have x4 := fX.c4; have X4 := hide fX; clear fX; clear y0 y1 y2 y3 y4; have y0 := fY.c0; have y1 := fY.c1; have y2 := fY.c2; have y3 := fY.c3; have y4 := fY.c4; have Y4 := hide fY; clear fY; have ltX4 := Nat.lt_trans ltX ltS; have ltY4 := Nat.lt_of_succ_lt ltX4; clear hw4 U)
    | (go_at_call 6; have U := unhide V2; refine Calls.mono (unhide BA _) ?_; rintro e w3 ⟨r3, rfl, hr3, hw3⟩; rw [it, Rep] at hr3; obtain ⟨a3, c3, rfl, -, -⟩ := hr3; have fY := (Five.new _ _ _ _ _ _ _ _ _ _).on hw3; have fX := (Five.new _ _ _ _ _ _ _ _ _ _).on ((Ext.alloc _ _).trans hw3); simp only [heap_alloc_size] at fY; have x0 := fX.c0; have x1 := fX.c1; have x2 := fX.c2; have x3 := fX.c3; have x4 := fX.c4; have y0 := fY.c0; have y1 := fY.c1; have y2 := fY.c2; have y3 := fY.c3; have y4 := fY.c4; have ltX : w2.heap.size + 1 < w3.heap.size := World.block_lt_of_cell? w3 ⟨w2.heap.size + 1, 0, none⟩ fY.c0; have X3 := hide fX; have Y3 := hide fY; have V3 := hide ((unhide V2).trans (((Ext.alloc _ _).trans (Ext.alloc _ _)).trans hw3)); clear fX fY hw3 U)
    | (go_at_call 5; have U := unhide V1; refine Calls.mono (rint_any _ _) ?_; rintro e w2 ⟨rfl, hw2⟩; have V2 := hide ((unhide V1).trans hw2); clear hw2 U)
    | (go_at_call 5; refine Calls.mono (rint_any _ _) ?_; rintro e w1 ⟨rfl, hw1⟩; have V1 := hide hw1; clear hw1))
  go_cut [81] (fun cc wx => cc = .bool false ∧ wx = w5.alloc (.cells #[.int .i64 1, .int .i64 t, .complex .f64 0 0, .string ⟨#[]⟩, .slice a5 0 c5] 25))
  case first =>
    rcases unhide HT with ⟨rfl, hab⟩ | ⟨rfl, hab⟩
    all_goals
      go_wp2_with fail
      go_meet
      exact ⟨by first | rfl | simp [hab], rfl⟩
  case rest =>
    obtain ⟨rfl, rfl⟩ := hcut
    go_upto_region 11 with (first
    | (go_at_call 6; have U := unhide V6; refine Calls.mono (unhide BM _) ?_; rintro e w7 ⟨r7, rfl, hr7, hw7⟩; rw [it, Rep] at hr7; obtain ⟨a7, c7, rfl, -, -⟩ := hr7; have fQn := (Five.new w6 25 1 qv 0 0 ⟨#[]⟩ a6 0 c6).on hw7; have q0 := fQn.c0; have q1 := fQn.c1; have q2 := fQn.c2; have q3 := fQn.c3; have q4 := fQn.c4; have ltQ : w6.heap.size < w7.heap.size := World.block_lt_of_cell? w7 ⟨w6.heap.size, 0, none⟩ fQn.c0; have Q7 := hide fQn; clear fQn; have fX := (unhide X6).on ((Ext.alloc _ _).trans hw7); have fY := (unhide Y6).on ((Ext.alloc _ _).trans hw7); have V7 := hide ((unhide V6).trans ((Ext.alloc _ _).trans hw7)); clear x0 x1 x2 x3 x4; have x0 := fX.c0; have x1 := fX.c1; have x2 := fX.c2; have x3 := fX.c3; have x4 := fX.c4; have X7 := hide fX; clear fX; clear y0 y1 y2 y3 y4; have y0 := fY.c0; have y1 := fY.c1; have y2 := fY.c2; have y3 := fY.c3; have y4 := fY.c4; have Y7 := hide fY; clear fY; have ltX7 := Nat.lt_trans ltX6 ltQ; have ltY7 := Nat.lt_of_succ_lt ltX7;  clear hw7 U)
    | (go_at_call 6; have U := unhide V5; refine Calls.mono (unhide BD _) ?_; rintro e w6 ⟨r6, rfl, hr6, hw6⟩; rw [it, Rep] at hr6; obtain ⟨a6, c6, rfl, -, -⟩ := hr6; have fLn := (Five.new w5 25 1 t 0 0 ⟨#[]⟩ a5 0 c5).on hw6; have l0 := fLn.c0; have l1 := fLn.c1; have l2 := fLn.c2; have l3 := fLn.c3; have l4 := fLn.c4; have ltL : w5.heap.size < w6.heap.size := World.block_lt_of_cell? w6 ⟨w5.heap.size, 0, none⟩ fLn.c0; have L6 := hide fLn; clear fLn; have fX := (unhide X5).on ((Ext.alloc _ _).trans hw6); have fY := (unhide Y5).on ((Ext.alloc _ _).trans hw6); have fS := (unhide S5).on ((Ext.alloc _ _).trans hw6); have fD := (unhide D5).on ((Ext.alloc _ _).trans hw6); have V6 := hide ((unhide V5).trans ((Ext.alloc _ _).trans hw6)); clear x0 x1 x2 x3 x4; have x0 := fX.c0; have x1 := fX.c1; have x2 := fX.c2; have x3 := fX.c3; have x4 := fX.c4; have X6 := hide fX; clear fX; clear y0 y1 y2 y3 y4; have y0 := fY.c0; have y1 := fY.c1; have y2 := fY.c2; have y3 := fY.c3; have y4 := fY.c4; have Y6 := hide fY; clear fY; clear s0 s1 s2 s3 s4; have s0 := fS.c0; have s1 := fS.c1; have s2 := fS.c2; have s3 := fS.c3; have s4 := fS.c4; have S6 := hide fS; clear fS; clear d0 d1 d2 d3 d4; have d0 := fD.c0; have d1 := fD.c1; have d2 := fD.c2; have d3 := fD.c3; have d4 := fD.c4; have D6 := hide fD; clear fD; have ltX6 := Nat.lt_trans ltX5 ltL; have ltY6 := Nat.lt_of_succ_lt ltX6; clear hw6 U))
    go_cut [139] (fun cc wx => cc = .bool false ∧ Hd (Ext w wx))
    case first =>
      have V8 : Hd (Ext w (w7.alloc (.cells #[.int .i64 1, .int .i64 mv, .complex .f64 0 0, .string ⟨#[]⟩, .slice a7 0 c7] 25))) := (unhide V7).trans (Ext.alloc _ _)
      have hqm := unhide HQM
      have hm1 := unhide HM1
      have hm2 := unhide HM2
      go_wp2_with fail
      all_goals
        go_meet
        exact ⟨congrArg Value.bool (by first | rfl | (simp only [Bool.or_eq_false_iff, decide_eq_false_iff_not]; omega)), unhide V8⟩
    case rest =>
      obtain ⟨rfl, VC⟩ := hcut
      go_wp2_with (go_at_call 8; refine Calls.mono (rlist_any _ _ _ _) ?_; rintro e w8 ⟨rfl, hw8⟩; have V8 := hide ((unhide VC).trans hw8); clear hw8)
      go_loopw [20] (fun i wr => ∃ j : Nat, i = .int .i64 j ∧ j ≤ m ∧ Hd (LI w wr w8.heap.size j)) (fun i _ => m - (intOf i).toNat)
      case atStart => exact ⟨0, rfl, by omega, ⟨(unhide V8).trans (Ext.alloc _ _), (unhide V8).le, none, 0, Go.heap_alloc_new w8 _, by simp [ints, RepL], by omega⟩⟩
      case round =>
        obtain ⟨j, rfl, hj, hLI⟩ := hrel
        have hLI' := unhide hLI
        obtain ⟨ap, cp, hrow, hrl, hcp⟩ := hLI'.row
        have hgw : w8.heap.size < wr.heap.size := (Array.getElem?_eq_some_iff.1 hrow).1
        have hfive := Five.ofRow hrow
        have g0 := hfive.c0
        have g1 := hfive.c1
        have g2 := hfive.c2
        have g3 := hfive.c3
        have g4 := hfive.c4
        have L0 := hide hfive
        by_cases hlt : j < m
        · have PU := hide (fun W (e : Ext wr W) => bin_push2 j (by omega) ap cp W (RepL.to (fun b hb => ⟨Nat.lt_of_lt_of_le hb.1 e.le, e.block b hb.1⟩) _ _ hrl) hcp)
          clear hrow hrl hcp hLI' hfive g0 g1 g2 g3 g4
          go_wp2_with fail
          refine chain_abs 21 147 (Rel17 wr j) (fun B hB => ?_) ?_
          · subst hB
            exact region17 _ wr w8.heap.size j ap cp rfl rfl rfl L0 hgw PU
          rintro pn e x1 x2 x3 x4 x5 x6 x7 wx ⟨gN, a2, c2, rfl, rfl, hN⟩
          have HNx := hide hN
          clear hN
          rename_i hK
          refine hK _ _ ?_
          clear hK
          simp only [chain9, List.setIfInBounds_toArray, List.set_cons_zero, List.set_cons_succ]
          have GE := hide (fun W (e : Ext wx W) => bin_get2 j (by omega) a2 c2 W (RepL.to (fun b hb => ⟨Nat.lt_of_lt_of_le hb.2.1 e.le, e.block b hb.2.1⟩) _ _ (unhide HNx).rl) (unhide HNx).le)
          have N0 := hide (unhide HNx).five
          have hgN : gN < wx.heap.size := World.block_lt_of_cell? wx ⟨gN, 0, none⟩ (unhide HNx).five.c0
          go_wp2_with fail
          refine chain_abs 23 154 (Rel18 wx j) (fun B hB => ?_) ?_
          · subst hB
            exact region18 _ wx gN j a2 c2 rfl rfl rfl N0 hgN GE
          rintro pn e y1 y2 y3 y4 y5 y6 y7 wy ⟨gL, a3, c3, rfl, rfl, hLx⟩
          have HLx := hide hLx
          clear hLx
          rename_i hK
          refine hK _ _ ?_
          clear hK
          simp only [chain9, List.setIfInBounds_toArray, List.set_cons_zero, List.set_cons_succ]
          have fN := (unhide N0).on (unhide HLx).ext
          have n0 := fN.c0
          have n1 := fN.c1
          have n2 := fN.c2
          have n3 := fN.c3
          have n4 := fN.c4
          have k0 := (unhide HLx).five.c0
          have k1 := (unhide HLx).five.c1
          have fG := (unhide L0).on ((unhide HNx).ext.trans (unhide HLx).ext)
          have g0 := fG.c0
          have g1 := fG.c1
          have g2 := fG.c2
          have g3 := fG.c3
          have g4 := fG.c4
          have gf := fG.fz
          clear fN fG
          go_wp2_with fail
          go_roundw
          case rel => exact ⟨j + 1, by go_num, by omega, LI.next2 (unhide hLI) (unhide HNx) (unhide HLx).ext⟩
          case measure => simp [intOf]; omega
        · have hjm : j = m := by omega
          subst hjm
          have UL := hide (fun W (e : Ext wr W) => un_len (ints j) (ints_ones j) (by rw [ints_len]; omega) j (ints_len j).symm ap cp W (RepL.to (fun b hb => ⟨Nat.lt_of_lt_of_le hb.1 e.le, e.block b hb.1⟩) _ _ hrl) hcp)
          have VW := hide hLI'.ext
          clear hrow hrl hcp hLI' hfive
          go_wp2_with (first
            | (go_at_call 9; refine Calls.mono (unhide UL _ (Ext.refl _)) ?_; rintro e w2 ⟨r2, rfl, hr2, hw2⟩; rw [it, Rep] at hr2; obtain ⟨a2, c2, rfl, -, -⟩ := hr2; have V9 := hide ((unhide VW).trans hw2); clear hw2)
            | (go_at_call 7; refine Calls.mono (oawake_any _) ?_; rintro e w9 ⟨rfl, hw9⟩; have VE := hide (((unhide V9).trans (Ext.alloc _ _)).trans hw9); clear hw9))
          go_ret
          exact ⟨rfl, unhide VE⟩

theorem owholes_walk (a b n : Int) (w : World) (h1 : -9223372036854775808 ≤ a) (h2 : a ≤ 9223372036854775807) (h3 : -9223372036854775808 ≤ b) (h4 : b ≤ 9223372036854775807) :
    Calls Try.prog 3 #[.int .i64 a, .int .i64 b, .int .i64 n] w fun e w' => e = .returned (.bool true) ∧ Ext w w' := by
  by_cases h0 : b = 0
  · exact owholes_zero a b n w h1 h2 h3 h4 h0
  · exact owholes_non a b n w h1 h2 h3 h4 h0

theorem wf64 {a : Int} (h : (Lit.int .i64 a).wf = true) : -9223372036854775808 ≤ a ∧ a ≤ 9223372036854775807 := by
  simp only [Lit.wf, decide_eq_true_eq, Bool.and_eq_true] at h
  have e1 : IntKind.min .i64 = -9223372036854775808 := by rfl
  have e2 : IntKind.max .i64 = 9223372036854775807 := by rfl
  rw [e1, e2] at h
  exact h

end Go.Proofs.Ytbkncdjmodeabaa
