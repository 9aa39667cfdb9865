/- What the document fixes of layer 5. · A text that is too long, however long it is: parse.Expr refuses it. · The walk of the law ParseExprs. · From what a row of layer 5 lists of the package-level variables to what the walks ask of memory: the table of operators, the sentinel of a range error. -/
import Derived.Test.YthoablpjkgeekaaGreatDoorZc38
import Derived.Test.YthoablpjkgeekaaGreatDoorZc33
import Derived.Test.YthoablpjkgeekaaGreatDoorZc42
import Derived.Test.YthoablpjkgeekaaGreatDoorZc43
import Derived.Test.YthoablpjkgeekaaGreatDoorRows
import Derived.Lib.LaidU8
import Derived.LaidMore
import Derived.LaidLaws
import Derived.ProofKit
set_option linter.unusedSimpArgs false
set_option linter.unusedVariables false
set_option maxRecDepth 10000

namespace Go.Proofs.YthoablpjkgeekaaGreatDoor
open Go.RowKit

def awL : List UInt8 := [97, 32, 43, 32, 98, 32, 42, 32, 50, 32, 60, 32, 51]
def awP : PN := ⟨11, 8, emptyB, 0, [⟨11, 1, emptyB, 0, [⟨19, 0, ⟨#[97]⟩, 0, []⟩, ⟨11, 3, emptyB, 0, [⟨19, 0, ⟨#[98]⟩, 0, []⟩, ⟨15, 0, emptyB, 2, []⟩]⟩]⟩, ⟨15, 0, emptyB, 3, []⟩]⟩
theorem aw_x : xrP ⟨awL.toArray⟩ 50 = (awP, ⟨[], 0, 0, 0⟩) := by kernel_rfl
theorem aw_e : wE 10 awP 1 (([], false), 0) = some ((awL, false), 7) := by kernel_rfl
theorem aw_b : bdN 5 awP = true := by decide +kernel
theorem aw_l : (begP ⟨awL.toArray⟩).ts.length < 50 := by decide +kernel
def mnB : ByteArray := ⟨#[102, 110, 32, 109, 97, 105, 110, 32, 40, 32, 41, 32, 123, 32, 125]⟩
def mnF : PFn := ⟨⟨#[109, 97, 105, 110]⟩, [], ⟨10, 0, emptyB, 0, []⟩⟩
theorem mn_x : rdP mnB 50 = ([mnF], ⟨[], 0, 0, 0⟩) := by kernel_rfl
theorem mn_l : (begP mnB).ts.length < 50 := by decide +kernel
theorem mn_t : tooP [mnF] = false := by decide +kernel

set_option maxHeartbeats 1000000 in
theorem awake5_w (w : World) (he : Er w) (hO : Opx w) : Calls Tryz.prog 9 #[] w fun e w' => e = .returned (.bool true) ∧ Ext w w' := by
  have HX : Hd (Calls Tryz.prog 10 #[.string ⟨#[97, 32, 43, 32, 98, 32, 42, 32, 50, 32, 60, 32, 51]⟩] w fun e w' => ∃ ua uc, e = .returned (.tuple #[.agg #[.int .i64 11, .int .i64 8, .string emptyB, .int .i64 0, .slice ua 2 uc], .int .i64 0, .int .i64 0]) ∧ RepN w' (InW w') awP (.agg #[.int .i64 11, .int .i64 8, .string emptyB, .int .i64 0, .slice ua 2 uc]) ∧ Ext w w') := by
    refine Calls.mono (exprT_any ⟨awL.toArray⟩ 50 w he hO (by decide) aw_l (by omega)) ?_
    rw [aw_x]
    rintro e w' ⟨hw, h9 | ⟨h9, u, rfl, ru⟩⟩
    · exact absurd rfl h9.1
    · have ru2 : RepN w' (InW w') awP u := RepN.to (fun b hb => ⟨hb.2, rfl⟩) _ _ ru
      have ru3 := ru2
      unfold awP at ru3
      rw [RepN] at ru3
      obtain ⟨ua, uc, rfl, _, _⟩ := ru3
      exact ⟨ua, uc, rfl, ru2, hw⟩
  have HS : Hd (∀ (v : Value) (W : World), Ext w W → RepN W (InW W) awP v → Calls Tryz.prog 19 #[v] W fun e w' => e = .returned (.tuple #[.string ⟨#[97, 32, 43, 32, 98, 32, 42, 32, 50, 32, 60, 32, 51]⟩, .bool true]) ∧ Ext W w') := fun v W x h => show_w awP 10 50 5 awL 7 _ v W (he.on x) (hO.ext x) h aw_e aw_x rfl aw_b (by decide) aw_l (by omega)
  have HP : Hd (∀ W, Ext w W → Calls Tryz.prog 6 #[.string ⟨#[102, 110, 32, 109, 97, 105, 110, 32, 40, 32, 41, 32, 123, 32, 125]⟩] W fun e w' => ∃ b off uc, e = .returned (.tuple #[.slice (some ⟨b, off, none⟩) 1 uc, .int .i64 0, .int .i64 0]) ∧ w'.cell? ⟨b, off, none⟩ = some (.string ⟨#[109, 97, 105, 110]⟩) ∧ Ext W w') := fun W x => by
    refine Calls.mono (program_any mnB 50 W (he.on x) (hO.ext x) (by decide) mn_l (by omega)) ?_
    rw [mn_x]
    rintro e w' ⟨hw, h9 | ⟨_, h9, _⟩ | ⟨_, _, a, c, rfl, _, hr⟩⟩
    · exact absurd rfl h9.1
    · rw [mn_t] at h9; cases h9
    · rcases hr with h | ⟨b, off, xs, rfl, _, hx, hcx⟩
      · cases h
      · obtain ⟨pa, pc, a2, cap2, _, _, _, _, hat⟩ := hx.at (j := 0) (p := mnF) rfl
        have h0 := hcx _ _ (hat 0 (.string mnF.nm) rfl)
        rw [Nat.zero_mul, Nat.zero_add, Nat.add_zero] at h0
        exact ⟨b, off, c, rfl, h0, hw⟩
  clear he hO
  go_enter Tryz.func9, Tryz.ntmps9
  go_wp2_with (first
    | (go_at_call 10; refine Calls.mono (unhide HX) ?_; rintro e w1 ⟨ua, uc, rfl, ru, hw⟩; have X1 := hide hw; have U1 := hide ru; clear hw ru)
    | (have T9 := unhide X1; go_at_call 19; refine Calls.mono (unhide HS _ _ (T9.trans (Ext.alloc _ _)) ((unhide U1).inw (Ext.alloc _ _))) ?_; rintro e w2 ⟨rfl, hw⟩; have X2 := hide ((T9.trans (Ext.alloc _ _)).trans hw); have rr := hw.row (Go.heap_alloc_new w1 _); have b0 := rowC rr 0 rfl; have b1 := rowC rr 1 rfl; have b2 := rowC rr 2 rfl; have b3 := rowC rr 3 rfl; have b4 := rowC rr 4 rfl; clear rr; clear hw T9)
    | (have T9 := unhide X2; go_at_call 6; refine Calls.mono (unhide HP _ T9) ?_; rintro e w3 ⟨fb, fo, fc, rfl, hc, hw⟩; have X3 := hide (T9.trans hw); have b0 := hw.cell b0; have b1 := hw.cell b1; have b2 := hw.cell b2; have b3 := hw.cell b3; have b4 := hw.cell b4; clear hw T9))
  go_ret
  exact ⟨ret_bool (by first | rfl | decide +kernel | simp), unhide X3⟩

end Go.Proofs.YthoablpjkgeekaaGreatDoor

namespace Go.Proofs.YthoablpjkgeekaaGreatDoor
open Go.RowKit

theorem ltokens_long (s : ByteArray) (w : World) (hs : 4000 < s.size) (hmax : s.size ≤ 9223372036854775807) :
    Calls Tryz.prog 28 #[.string s] w fun e w' => e = .returned (.tuple #[.slice none 0 0, .int .i64 0, .int .i64 2]) ∧ Ext w w' := by
  go_enter Tryz.func28, Tryz.ntmps28
  go_wp2
  go_step3
  go_wp2
  try rw [Exit.noGoto_ret]
  go_ret3
  exact ⟨rfl, Ext.refl _⟩
theorem toks_beg_long (s : ByteArray) (w : World) (hl : 4000 < s.size) (hmax : s.size ≤ 9223372036854775807) :
    Calls Tryz.prog 28 #[.string s] w fun e w' => ∃ a n cap, e = .returned (.tuple #[.slice a n cap, .int .i64 (begP s).pl, .int .i64 (begP s).e]) ∧ (begP s).op = 0 ∧ (∀ ob, Sl (w'.alloc ob) w'.heap.size (.slice a n cap) (begP s).ts) ∧ Ext w w' := by
  refine (ltokens_long s w hl hmax).mono ?_
  rintro e w1 ⟨rfl, hx⟩
  rw [begP_long hl]
  exact ⟨none, 0, 0, rfl, rfl, fun _ => slNil _ _, hx⟩

set_option maxHeartbeats 1000000 in
theorem pbegin_long (s : ByteArray) (w : World) (hl : 4000 < s.size) (hmax : s.size ≤ 9223372036854775807) :
    Calls Tryz.prog 14 #[.string s] w fun e w' => ∃ g, e = .returned (.pointer (some ⟨g, 0, none⟩)) ∧ w.heap.size ≤ g ∧ St w' g s.size (begP s) ∧ Ext w w' := by
  have HT := hide (toks_beg_long s w hl hmax)
  generalize begP s = st at *
  obtain ⟨ts, op, pl, er⟩ := st
  go_enter Tryz.func14, Tryz.ntmps14
  go_wp2_with (go_at_call 28; refine Calls.mono (unhide HT) ?_; rintro e w1 ⟨a, n, cap, rfl, hop, hs, hx⟩; have HO := hide hop; have HS := hide hs; have X := hide hx; clear hop hs hx)
  go_ret
  have hop : op = 0 := unhide HO
  subst hop
  exact ⟨_, rfl, (unhide X).le, ⟨⟨_, Go.heap_alloc_new w1 _, unhide HS _⟩⟩, (unhide X).trans (Ext.alloc _ _)⟩

set_option maxHeartbeats 1000000 in
theorem exprT_of (s : ByteArray) (f : Nat) (w : World) (he : Er w) (hO : Opx w) (hBg : ∀ W, Ext w W → Calls Tryz.prog 14 #[.string s] W fun e w' => ∃ g, e = .returned (.pointer (some ⟨g, 0, none⟩)) ∧ W.heap.size ≤ g ∧ St w' g s.size (begP s) ∧ Ext W w') (hf : (begP s).ts.length < f) (hf2 : f ≤ 100000) :
    Calls Tryz.prog 10 #[.string s] w (ExprOf (xrP s f) w) := by
  have HBg := hide (fun (W : World) (x : Ext w W) => hBg W x)
  clear hBg
  have HX := hide (fun gg W (x : Rs W gg s.size (begP s)) => exIs gg s.size f hf2 (begP s) W hf x)
  have HFi := hide (fun gg W (x : St W gg s.size (exP s.size f (begP s)).2) => finish_any s.size gg _ W x)
  have hp := opx_lt hO
  have HO := hide hO
  obtain ⟨fq, hfq⟩ : ∃ fq, fq = finP s.size (exP s.size f (begP s)).2 := ⟨_, rfl⟩
  have hq : xrP s f = ((exP s.size f (begP s)).1, fq) := by rw [hfq]; rfl
  rw [hq]
  rw [← hfq] at HFi
  clear hfq hq he hO hf
  generalize exP s.size f (begP s) = q at *
  generalize begP s = st0 at *
  obtain ⟨⟨k, o, ss, nn, l⟩, st1⟩ := q
  obtain ⟨ts, op, pl, er⟩ := fq
  by_cases h0 : er = 0
  · subst h0
    go_enter Tryz.func10, Tryz.ntmps10
    go_wp2_with (first
      | (go_at_call 14; refine Calls.mono (unhide HBg _ (Ext.alloc _ _)) ?_; rintro e w1 ⟨gg, rfl, hgg, hs, hw⟩; have hgg : w.heap.size + 1 ≤ gg := (by rw [size_alloc] at hgg; exact hgg); have RN1 := hide (hw.row (Go.heap_alloc_new w _)); have X1 := hide ((Ext.alloc _ _).trans hw); have O1 := hide (Rs.mk hs ((unhide HO).ext (unhide X1)) (by omega)); clear hw hs)
      | (go_at_call 20; refine Calls.mono (unhide HX gg _ (unhide O1)) ?_; rintro e w2 ⟨v, rfl, hrep, hs, hw⟩; have S2 := hide hs; have RP := hide hrep; have X2 := hide ((unhide X1).gr hw (by omega)); rw [RepN] at hrep; obtain ⟨la, lc, rfl, _, _⟩ := hrep; have RN2 := hw.row (unhide RN1) (by omega); have r0 := rowC RN2 0 rfl; have r1 := rowC RN2 1 rfl; have r2 := rowC RN2 2 rfl; have r3 := rowC RN2 3 rfl; have r4 := rowC RN2 4 rfl; have rf := rowF RN2; have S3 := hide (hs.apart RN2 (by omega)); have RN3 := hide RN2; clear hw hs RN2)
      | (go_at_call 21; refine Calls.mono (unhide HFi gg _ (unhide S3 _ (fun b hb => set5_other w2 _ b k o ss nn _ hb))) ?_; rintro e w3 ⟨rfl, hs, hw⟩; have c3 : w3.cell? ⟨gg, 3, none⟩ = some (.int .i64 pl) := (by obtain ⟨T, h1, _⟩ := hs.ex; exact rowC h1 3 rfl); have c4 : w3.cell? ⟨gg, 4, none⟩ = some (.int .i64 0) := (by obtain ⟨T, h1, _⟩ := hs.ex; exact rowC h1 4 rfl); have X3 := hide hw; clear r0 r1 r2 r3 r4 rf; have RN4 := hw.row (set5_row (unhide RN3) k o ss nn _) (by omega); have z0 := rowC RN4 0 rfl; have z1 := rowC RN4 1 rfl; have z2 := rowC RN4 2 rfl; have z3 := rowC RN4 3 rfl; have z4 := rowC RN4 4 rfl; have zf := rowF RN4; have E3 := hide ((set5_ext (unhide X2) w.heap.size (Nat.le_refl _) k o ss nn _).gr hw (by omega)); have RN5 := hide RN4; clear hw hs RN4))
    have hb1 : gg < w1.heap.size := (unhide O1).st.lt
    have hRep : Hd (RepN (set5 w3 w.heap.size k o ss nn (.slice la l.length lc)) (Fr w.heap.size (set5 w3 w.heap.size k o ss nn (.slice la l.length lc)).heap.size) ⟨k, o, ss, nn, l⟩ (nodV k o ss nn (.slice la l.length lc))) := by
      have hx := (unhide X3)
      have hz := hx.size
      rw [set5_size] at hz
      have hz1 := (unhide X1).size
      rw [set5_size]
      refine RepN.to (fun b hb => ⟨⟨by have := hb.1; omega, Nat.lt_of_lt_of_le hb.2 hz⟩, ?_⟩) _ _ (unhide RP)
      have h1 := hb.1
      have h2 := hb.2
      have hN : b ≠ w.heap.size := by have := (unhide RN1); have := (Array.getElem?_eq_some_iff.1 this).1; omega
      rw [set5_block hN, hx.block b (by rw [set5_size]; exact h2) (by omega), set5_block hN]
    have hE : Hd (Ext w (set5 w3 w.heap.size k o ss nn (.slice la l.length lc))) := set5_ext (unhide E3) w.heap.size (Nat.le_refl _) k o ss nn _
    have hRow := set5_row (unhide RN5) k o ss nn (.slice la l.length lc)
    have q0 := rowC hRow 0 rfl
    have q1 := rowC hRow 1 rfl
    have q2 := rowC hRow 2 rfl
    have q3 := rowC hRow 3 rfl
    have q4 := rowC hRow 4 rfl
    clear hRow z0 z1 z2 z3 z4
    exact bodyPost_ret (v := .tuple #[nodV k o ss nn (.slice la l.length lc), .int .i64 0, .int .i64 0]) (by simp [results, Tryz.results10, go_sem, q0, q1, q2, q3, q4]) rfl ⟨unhide hE, Or.inr ⟨rfl, _, rfl, unhide hRep⟩⟩
  · have h1 : (er == 0) = false := by simpa using h0
    have h2 : (er != 0) = true := by simp [h0]
    have H0 := hide h0
    clear h0
    go_enter Tryz.func10, Tryz.ntmps10
    go_wp2_with (first
      | (go_at_call 14; refine Calls.mono (unhide HBg _ (Ext.alloc _ _)) ?_; rintro e w1 ⟨gg, rfl, hgg, hs, hw⟩; have hgg : w.heap.size + 1 ≤ gg := (by rw [size_alloc] at hgg; exact hgg); have RN1 := hide (hw.row (Go.heap_alloc_new w _)); have X1 := hide ((Ext.alloc _ _).trans hw); have O1 := hide (Rs.mk hs ((unhide HO).ext (unhide X1)) (by omega)); clear hw hs)
      | (go_at_call 20; refine Calls.mono (unhide HX gg _ (unhide O1)) ?_; rintro e w2 ⟨v, rfl, hrep, hs, hw⟩; have S2 := hide hs; have RP := hide hrep; have X2 := hide ((unhide X1).gr hw (by omega)); rw [RepN] at hrep; obtain ⟨la, lc, rfl, _, _⟩ := hrep; have RN2 := hw.row (unhide RN1) (by omega); have r0 := rowC RN2 0 rfl; have r1 := rowC RN2 1 rfl; have r2 := rowC RN2 2 rfl; have r3 := rowC RN2 3 rfl; have r4 := rowC RN2 4 rfl; have rf := rowF RN2; have S3 := hide (hs.apart RN2 (by omega)); have RN3 := hide RN2; clear hw hs RN2)
      | (go_at_call 21; refine Calls.mono (unhide HFi gg _ (unhide S3 _ (fun b hb => set5_other w2 _ b k o ss nn _ hb))) ?_; rintro e w3 ⟨rfl, hs, hw⟩; have c3 : w3.cell? ⟨gg, 3, none⟩ = some (.int .i64 pl) := (by obtain ⟨T, h1, _⟩ := hs.ex; exact rowC h1 3 rfl); have c4 : w3.cell? ⟨gg, 4, none⟩ = some (.int .i64 er) := (by obtain ⟨T, h1, _⟩ := hs.ex; exact rowC h1 4 rfl); have X3 := hide hw; clear r0 r1 r2 r3 r4 rf; have RN4 := hw.row (set5_row (unhide RN3) k o ss nn _) (by omega); have z0 := rowC RN4 0 rfl; have z1 := rowC RN4 1 rfl; have z2 := rowC RN4 2 rfl; have z3 := rowC RN4 3 rfl; have z4 := rowC RN4 4 rfl; have zf := rowF RN4; have E3 := hide ((set5_ext (unhide X2) w.heap.size (Nat.le_refl _) k o ss nn _).gr hw (by omega)); have RN5 := hide RN4; clear hw hs RN4))
    go_region
    have hRow := set5_row (unhide RN5) 0 0 ⟨#[]⟩ 0 (.slice none 0 0)
    have hE : Hd (Ext w (set5 w3 w.heap.size 0 0 ⟨#[]⟩ 0 (.slice none 0 0))) := set5_ext (unhide E3) w.heap.size (Nat.le_refl _) 0 0 ⟨#[]⟩ 0 _
    have q0 := rowC hRow 0 rfl
    have q1 := rowC hRow 1 rfl
    have q2 := rowC hRow 2 rfl
    have q3 := rowC hRow 3 rfl
    have q4 := rowC hRow 4 rfl
    clear hRow z0 z1 z2 z3 z4
    go_wp2_with fail
    exact bodyPost_ret (v := .tuple #[nodV 0 0 ⟨#[]⟩ 0 (.slice none 0 0), .int .i64 pl, .int .i64 er]) (by simp [results, Tryz.results10, go_sem, q0, q1, q2, q3, q4]) rfl ⟨(unhide hE).drew, Or.inl ⟨unhide H0, rfl⟩⟩

/-- parse.Expr at any text that there can be. -/
theorem exprT_all (s : ByteArray) (f : Nat) (w : World) (he : Er w) (hO : Opx w) (hmax : s.size ≤ 9223372036854775807) (hf : (begP s).ts.length < f) (hf2 : f ≤ 100000) :
    Calls Tryz.prog 10 #[.string s] w (ExprOf (xrP s f) w) := by
  by_cases h4 : 4000 < s.size
  · exact exprT_of s f w he hO (fun W x => pbegin_long s W h4 hmax) hf hf2
  · exact exprT_any s f w he hO (by omega) hf hf2

end Go.Proofs.YthoablpjkgeekaaGreatDoor

namespace Go.Proofs.YthoablpjkgeekaaGreatDoor
open Go.RowKit

/-- The two answers, as values: the same tree, place and fault. -/
def TwoN (p : PN) (w : World) (v u : Value) : Prop := RepN w (InW w) p v ∧ RepN w (InW w) p u

set_option maxHeartbeats 4000000 in
theorem exprs_walk (s : ByteArray) (w : World) (hmax : s.size ≤ 9223372036854775807) (he : Er w) (hO : Opx w) :
    Calls Tryz.prog 4 #[.string s] w fun e w' => e = .returned (.bool true) ∧ Ext w w' := by
  have hbl := begP_len s
  have HAw := hide (fun (W : World) (x : Ext w W) => awake5_w W (he.on x) (hO.ext x))
  obtain ⟨q, hq⟩ : ∃ q, q = xrP s 5000 := ⟨_, rfl⟩
  have hB : BL q.1 := by rw [hq]; exact xr_bl s 5000
  obtain ⟨P, E, p, hP⟩ : ∃ (P E : Int) (p : PN), BL p ∧ P = (if q.2.e = 0 then 0 else q.2.pl) ∧ E = q.2.e ∧ p = (if q.2.e = 0 then q.1 else nodeZ) := by
    refine ⟨_, _, _, ?_, rfl, rfl, rfl⟩
    split
    · exact hB
    · exact BL.leaf _ _ _ _
  obtain ⟨hBp, hP1, hE1, hp1⟩ := hP
  have HEx : Hd (∀ W, Ext w W → Calls Tryz.prog 10 #[.string s] W fun e w' => ∃ k o sx n a l cap, e = .returned (.tuple #[.agg #[.int .i64 k, .int .i64 o, .string sx, .int .i64 n, .slice a l cap], .int .i64 P, .int .i64 E]) ∧ RepN w' (InW w') p (.agg #[.int .i64 k, .int .i64 o, .string sx, .int .i64 n, .slice a l cap]) ∧ Ext W w') := fun W x => by
    refine Calls.mono (exprT_all s 5000 W (he.on x) (hO.ext x) hmax (by omega) (by omega)) ?_
    rw [← hq]
    rintro e w' ⟨hw, ⟨h9, rfl⟩ | ⟨h9, v, rfl, hr⟩⟩
    · refine ⟨0, 0, ⟨#[]⟩, 0, none, 0, 0, ?_, ?_, hw⟩
      · rw [hP1, hE1, if_neg h9]
      · rw [hp1, if_neg h9]; exact repZ _ _
    · have hr2 : RepN w' (InW w') p v := by rw [hp1, if_pos h9]; exact RepN.to (fun b hb => ⟨hb.2, rfl⟩) _ _ hr
      obtain ⟨k, o, sx, n, l⟩ := p
      have hr3 := hr2
      rw [RepN] at hr3
      obtain ⟨a, cap, rfl, _, _⟩ := hr3
      exact ⟨k, o, sx, n, a, l.length, cap, by rw [hP1, hE1, if_pos h9, h9], hr2, hw⟩
  have HRx : Hd (∀ W, Calls Tryz.prog 11 #[.string s] W fun e w' => ∃ k o sx n a l cap, e = .returned (.agg #[.slice none 0 0, .int .i64 k, .int .i64 o, .string sx, .int .i64 n, .slice a l cap, .int .i64 P, .int .i64 E]) ∧ RepN w' (InW w') p (.agg #[.int .i64 k, .int .i64 o, .string sx, .int .i64 n, .slice a l cap]) ∧ Ext W w') := fun W => by
    refine Calls.mono (rexpr_any s 5000 W hmax (by omega) (by omega)) ?_
    rw [← hq]
    rintro e w' ⟨hw, ⟨h9, rfl⟩ | ⟨h9, k, o, sx, n, a, l, cap, rfl, hr⟩⟩
    · refine ⟨0, 0, ⟨#[]⟩, 0, none, 0, 0, ?_, ?_, hw⟩
      · rw [hP1, hE1, if_neg h9]
      · rw [hp1, if_neg h9]; exact repZ _ _
    · exact ⟨k, o, sx, n, a, l, cap, by rw [hP1, hE1, if_pos h9, h9], by rw [hp1, if_pos h9]; exact hr, hw⟩
  have HSm := hide (rsame_bl p hBp)
  clear he hO hP1 hE1 hp1 hBp hB hq hbl
  go_enter Tryz.func4, Tryz.ntmps4
  go_wp2_with (first
    | (go_at_call 10; refine Calls.mono (unhide HEx _ (Ext.refl _)) ?_; rintro e w1 ⟨k1, o1, s1, n1, a1, l1, c1, rfl, hr, hw⟩; have X1 := hide hw; have U1 := hide hr; clear hw hr)
    | (go_at_call 11; refine Calls.mono (unhide HRx _) ?_; rintro e w2 ⟨k2, o2, s2, n2, a2, l2, c2, rfl, hr, hw⟩; have X2 := hide (((unhide X1).trans (Ext.alloc _ _)).trans hw); have RN := hide (hw.row (Go.heap_alloc_new w1 (nodO k1 o1 s1 n1 (.slice a1 l1 c1)))); have p0 := rowC (unhide RN) 0 rfl; have p1 := rowC (unhide RN) 1 rfl; have p2 := rowC (unhide RN) 2 rfl; have p3 := rowC (unhide RN) 3 rfl; have p4 := rowC (unhide RN) 4 rfl; have U1b := hide ((unhide U1).inw ((Ext.alloc _ (nodO k1 o1 s1 n1 (.slice a1 l1 c1))).trans hw)); have hz2 : w1.heap.size < w2.heap.size := (Array.getElem?_eq_some_iff.1 (unhide RN)).1; have U2 := hide hr; clear hw hr)
    | (have T9 := unhide X2; go_at_call 12; refine Calls.mono (unhide HSm _ _ _ ((unhide U1b).inw (Ext.alloc _ _)) ((unhide U2).inw (Ext.alloc _ _))) ?_; rintro e w3 ⟨rfl, hw⟩; have X3 := hide ((T9.trans (Ext.alloc _ _)).trans hw); have RT := hide (hw.row (Go.heap_alloc_new w2 (tolO (.slice none 0 0) k2 o2 s2 n2 (.slice a2 l2 c2) P E))); have t0 := rowC (unhide RT) 0 rfl; have t1 := rowC (unhide RT) 1 rfl; have t2 := rowC (unhide RT) 2 rfl; have t3 := rowC (unhide RT) 3 rfl; have t4 := rowC (unhide RT) 4 rfl; have t5 := rowC (unhide RT) 5 rfl; have t6 := rowC (unhide RT) 6 rfl; have t7 := rowC (unhide RT) 7 rfl; clear hw T9)
    | (have T9 := unhide X3; go_at_call 9; refine Calls.mono (unhide HAw _ T9) ?_; rintro e w4 ⟨rfl, hw⟩; have X4 := hide (T9.trans hw); clear hw T9))
  go_ret
  exact ⟨rfl, unhide X4⟩

end Go.Proofs.YthoablpjkgeekaaGreatDoor

namespace Go.Proofs.YthoablpjkgeekaaGreatDoor
open Go.RowKit

def oprD (o : Opr) : DataW Unit := .agg [.lit (.string o.s.data.toList), .lit (.int .i64 o.lv), .lit (.int .i64 o.k), .lit (.int .i64 o.o)]

theorem bytes_of_list {s t : ByteArray} (h : s.data.toList = t.data.toList) : s = t := by
  cases s; cases t
  simpa using h

theorem one_of_take {cs : List Value} {k : Nat} {v : Value} (h : (cs.drop k).take 1 = [v]) : cs[k]? = some v := by
  have := congrArg (·[0]?) h
  simpa [List.getElem?_take, List.getElem?_drop] using this

theorem opr_of_trod {W : World} {fuel : Nat} {cs : List Value} {q : List MemPlace} (o : Opr)
    (h : DataW.trod (fun _ => ()) Tryz.prog W 0 (fun _ => true) false fuel 86 cs = some (oprD o, q)) : ∀ r < 4, cs[r]? = (oprC o)[r]? := by
  obtain ⟨xs, n, rfl, hx, hl, hxl, hall⟩ := DataW.trod_struct Tryz.underlying86 h
  have hd : xs.map (·.1) = [.lit (.string o.s.data.toList), .lit (.int .i64 o.lv), .lit (.int .i64 o.k), .lit (.int .i64 o.o)] := by
    have := congrArg Prod.fst hx
    simpa [oprD] using this.symm
  obtain ⟨x0, x1, x2, x3, rfl⟩ : ∃ x0 x1 x2 x3, xs = [x0, x1, x2, x3] := by
    match xs, hxl with
    | [x0, x1, x2, x3], _ => exact ⟨x0, x1, x2, x3, rfl⟩
  simp only [List.map_cons, List.map_nil, List.cons.injEq, and_true] at hd
  obtain ⟨d0, d1, d2, d3⟩ := hd
  have c3 : Tryz.prog.cellsOf 9 = 1 := by kernel_rfl
  have c1 : Tryz.prog.cellsOf 3 = 1 := by kernel_rfl
  have h0 : DataW.trod (fun _ => ()) Tryz.prog W 0 (fun _ => true) false n 9 ((cs.drop 0).take (Tryz.prog.cellsOf 9)) = some x0 := hall 0 _ rfl
  have h1 : DataW.trod (fun _ => ()) Tryz.prog W 0 (fun _ => true) false n 3 ((cs.drop 1).take (Tryz.prog.cellsOf 3)) = some x1 := hall 1 _ rfl
  have h2 : DataW.trod (fun _ => ()) Tryz.prog W 0 (fun _ => true) false n 3 ((cs.drop 2).take (Tryz.prog.cellsOf 3)) = some x2 := hall 2 _ rfl
  have h3 : DataW.trod (fun _ => ()) Tryz.prog W 0 (fun _ => true) false n 3 ((cs.drop 3).take (Tryz.prog.cellsOf 3)) = some x3 := hall 3 _ rfl
  obtain ⟨s, e0, y0, _⟩ := DataW.trod_string Tryz.underlying9 h0
  obtain ⟨a, e1, y1, _⟩ := DataW.trod_int Tryz.underlying3 h1
  obtain ⟨b, e2, y2, _⟩ := DataW.trod_int Tryz.underlying3 h2
  obtain ⟨c, e3, y3, _⟩ := DataW.trod_int Tryz.underlying3 h3
  subst y0 y1 y2 y3
  simp only [DataW.lit.injEq, Lit.string.injEq, Lit.int.injEq, true_and] at d0 d1 d2 d3
  obtain rfl := bytes_of_list d0
  subst d1 d2 d3
  rw [c3] at e0
  rw [c1] at e1 e2 e3
  have g0 := one_of_take e0
  have g1 := one_of_take e1
  have g2 := one_of_take e2
  have g3 := one_of_take e3
  intro r hr
  match r, hr with
  | 0, _ => exact g0
  | 1, _ => exact g1
  | 2, _ => exact g2
  | 3, _ => exact g3

theorem opTab_at (i r : Nat) (o : Opr) (h : oprs[i]? = some o) (hr : r < 4) : opTab[i * 4 + r]? = (oprC o)[r]? := by
  match i, h with
  | 0, h => obtain rfl := Option.some.inj h; match r, hr with | 0, _ => rfl | 1, _ => rfl | 2, _ => rfl | 3, _ => rfl
  | 1, h => obtain rfl := Option.some.inj h; match r, hr with | 0, _ => rfl | 1, _ => rfl | 2, _ => rfl | 3, _ => rfl
  | 2, h => obtain rfl := Option.some.inj h; match r, hr with | 0, _ => rfl | 1, _ => rfl | 2, _ => rfl | 3, _ => rfl
  | 3, h => obtain rfl := Option.some.inj h; match r, hr with | 0, _ => rfl | 1, _ => rfl | 2, _ => rfl | 3, _ => rfl
  | 4, h => obtain rfl := Option.some.inj h; match r, hr with | 0, _ => rfl | 1, _ => rfl | 2, _ => rfl | 3, _ => rfl
  | 5, h => obtain rfl := Option.some.inj h; match r, hr with | 0, _ => rfl | 1, _ => rfl | 2, _ => rfl | 3, _ => rfl
  | 6, h => obtain rfl := Option.some.inj h; match r, hr with | 0, _ => rfl | 1, _ => rfl | 2, _ => rfl | 3, _ => rfl
  | 7, h => obtain rfl := Option.some.inj h; match r, hr with | 0, _ => rfl | 1, _ => rfl | 2, _ => rfl | 3, _ => rfl
  | 8, h => obtain rfl := Option.some.inj h; match r, hr with | 0, _ => rfl | 1, _ => rfl | 2, _ => rfl | 3, _ => rfl
  | 9, h => obtain rfl := Option.some.inj h; match r, hr with | 0, _ => rfl | 1, _ => rfl | 2, _ => rfl | 3, _ => rfl
  | 10, h => obtain rfl := Option.some.inj h; match r, hr with | 0, _ => rfl | 1, _ => rfl | 2, _ => rfl | 3, _ => rfl
  | 11, h => obtain rfl := Option.some.inj h; match r, hr with | 0, _ => rfl | 1, _ => rfl | 2, _ => rfl | 3, _ => rfl
  | 12, h => obtain rfl := Option.some.inj h; match r, hr with | 0, _ => rfl | 1, _ => rfl | 2, _ => rfl | 3, _ => rfl
  | 13, h => obtain rfl := Option.some.inj h; match r, hr with | 0, _ => rfl | 1, _ => rfl | 2, _ => rfl | 3, _ => rfl
  | 14, h => obtain rfl := Option.some.inj h; match r, hr with | 0, _ => rfl | 1, _ => rfl | 2, _ => rfl | 3, _ => rfl
  | 15, h => obtain rfl := Option.some.inj h; match r, hr with | 0, _ => rfl | 1, _ => rfl | 2, _ => rfl | 3, _ => rfl
  | i + 16, h => simp [oprs] at h

theorem opx_of_reads {W : World} (h : Lib.VarReads Tryz.prog W "ratline/parse.operators" (.agg (oprs.map oprD))) : Opx W := by
  obtain ⟨g, t, cs, fuel, p, hg, hty, hvar, hd⟩ := h
  obtain rfl := Option.some.inj ((show Tryz.prog.globalNamed "ratline/parse.operators" = some 0 by kernel_rfl).symm.trans hg)
  obtain rfl := Option.some.inj ((show (Tryz.prog.globals[0]?).map (·.type) = some 128 by kernel_rfl).symm.trans hty)
  have c4 : Tryz.prog.cellsOf 86 = 4 := by kernel_rfl
  intro j v hv
  have hj : j < 64 := by
    obtain ⟨hl, _⟩ := List.getElem?_eq_some_iff.1 hv
    exact hl
  obtain ⟨fuel', d, q, hdi, he⟩ := Lib.array_elem Tryz.underlying128 hd (j / 4) (by omega)
  rw [List.getElem?_map] at hdi
  obtain ⟨o, ho, rfl⟩ := Option.map_eq_some_iff.1 hdi
  have h1 := opr_of_trod o he (j % 4) (by omega)
  rw [c4, List.getElem?_take_of_lt (by omega), List.getElem?_drop] at h1
  have h2 := opTab_at (j / 4) (j % 4) o ho (by omega)
  have hjj : j / 4 * 4 + j % 4 = j := by omega
  rw [hjj] at h1 h2
  rw [Nat.zero_add, World.var?_cell hg hvar j, ← Array.getElem?_toList, h1, ← h2, hv]

theorem er_of_reads {W : World} (h : Lib.VarReads Tryz.prog W "strconv.ErrRange" Rows.laid_strconv_ErrRange) : Er W := by
  obtain ⟨g, t, cs, fuel, p, hg, ht, hv, hd⟩ := h
  obtain rfl := Option.some.inj ((show Tryz.prog.globalNamed "strconv.ErrRange" = some 3 by kernel_rfl).symm.trans hg)
  obtain rfl := Option.some.inj ((show (Tryz.prog.globals[3]?).map (·.type) = some 119 by kernel_rfl).symm.trans ht)
  obtain ⟨fuel', u, v, hcs, _, _⟩ := iface_of_trod Tryz.underlying119 hd
  have h0 := World.var?_cell hg hv 0
  refine ⟨u, v, h0.trans ?_⟩
  obtain rfl : cs = #[.iface u v] := by cases cs; simp_all
  rfl

end Go.Proofs.YthoablpjkgeekaaGreatDoor
