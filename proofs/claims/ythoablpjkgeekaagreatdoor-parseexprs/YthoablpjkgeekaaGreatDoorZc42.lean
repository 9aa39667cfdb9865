/- The document's Expr, at any text. -/
import Derived.Test.YthoablpjkgeekaaGreatDoorZc17
import Derived.Test.YthoablpjkgeekaaGreatDoorZc20
import Derived.Test.YthoablpjkgeekaaGreatDoorZc41
import Derived.Test.YthoablpjkgeekaaGreatDoorZc16
set_option linter.unusedSimpArgs false
set_option linter.unusedVariables false
set_option maxRecDepth 10000

namespace Go.Proofs.YthoablpjkgeekaaGreatDoor
open Go.RowKit

/-- What the document tells of an expression's text. -/
def RTold (q : PN × PS) (w : World) (e : Ending) (w' : World) : Prop :=
  Ext w w' ∧ ((q.2.e ≠ 0 ∧ e = .returned (.agg #[.slice none 0 0, .int .i64 0, .int .i64 0, .string ⟨#[]⟩, .int .i64 0, .slice none 0 0, .int .i64 q.2.pl, .int .i64 q.2.e])) ∨
    (q.2.e = 0 ∧ ∃ k o s n a l cap, e = .returned (.agg #[.slice none 0 0, .int .i64 k, .int .i64 o, .string s, .int .i64 n, .slice a l cap, .int .i64 0, .int .i64 0]) ∧ RepN w' (InW w') q.1 (.agg #[.int .i64 k, .int .i64 o, .string s, .int .i64 n, .slice a l cap])))

abbrev tolV (L : Value) (k o : Int) (s : ByteArray) (n : Int) (l : Value) (at_ e : Int) : Value := .agg #[L, .int .i64 k, .int .i64 o, .string s, .int .i64 n, l, .int .i64 at_, .int .i64 e]
abbrev tolO (L : Value) (k o : Int) (s : ByteArray) (n : Int) (l : Value) (at_ e : Int) : Obj := .cells #[L, .int .i64 k, .int .i64 o, .string s, .int .i64 n, l, .int .i64 at_, .int .i64 e] 30 (0, 0)
abbrev set8 (w : World) (b : Nat) (L : Value) (k o : Int) (s : ByteArray) (n : Int) (l : Value) (at_ e : Int) : World := ((((((((w).setCell ⟨b, 0, none⟩ L).setCell ⟨b, 1, none⟩ (.int .i64 k)).setCell ⟨b, 2, none⟩ (.int .i64 o)).setCell ⟨b, 3, none⟩ (.string s)).setCell ⟨b, 4, none⟩ (.int .i64 n)).setCell ⟨b, 5, none⟩ l).setCell ⟨b, 6, none⟩ (.int .i64 at_)).setCell ⟨b, 7, none⟩ (.int .i64 e)
theorem set8_row {w : World} {b : Nat} {c0 c1 c2 c3 c4 c5 c6 c7 : Value} (h : w.heap[b]? = some (.cells #[c0, c1, c2, c3, c4, c5, c6, c7] 30 (0, 0))) (L : Value) (k o : Int) (s : ByteArray) (n : Int) (l : Value) (at_ e : Int) : (set8 w b L k o s n l at_ e).heap[b]? = some (tolO L k o s n l at_ e) := by
  have h7 := row_set (row_set (row_set (row_set (row_set (row_set (row_set (row_set h 0 L) 1 (.int .i64 k)) 2 (.int .i64 o)) 3 (.string s)) 4 (.int .i64 n)) 5 l) 6 (.int .i64 at_)) 7 (.int .i64 e)
  simpa only [List.setIfInBounds_toArray, List.set_cons_zero, List.set_cons_succ] using h7
theorem set8_block {w : World} {b x : Nat} (hx : x ≠ b) (L : Value) (k o : Int) (s : ByteArray) (n : Int) (l : Value) (at_ e : Int) : (set8 w b L k o s n l at_ e).heap[x]? = w.heap[x]? := by
  rw [Below.heap_setCell _ _ _ _ hx, Below.heap_setCell _ _ _ _ hx, Below.heap_setCell _ _ _ _ hx, Below.heap_setCell _ _ _ _ hx, Below.heap_setCell _ _ _ _ hx, Below.heap_setCell _ _ _ _ hx, Below.heap_setCell _ _ _ _ hx, Below.heap_setCell _ _ _ _ hx]
theorem set8_ext {w0 w : World} (h : Ext w0 w) {b : Nat} (hb : w0.heap.size ≤ b) (L : Value) (k o : Int) (s : ByteArray) (n : Int) (l : Value) (at_ e : Int) : Ext w0 (set8 w b L k o s n l at_ e) :=
  (((((((h.set (p := ⟨b, 0, none⟩) hb _).set (p := ⟨b, 1, none⟩) hb _).set (p := ⟨b, 2, none⟩) hb _).set (p := ⟨b, 3, none⟩) hb _).set (p := ⟨b, 4, none⟩) hb _).set (p := ⟨b, 5, none⟩) hb _).set (p := ⟨b, 6, none⟩) hb _).set (p := ⟨b, 7, none⟩) hb _
theorem set8_size (w : World) (b : Nat) (L : Value) (k o : Int) (s : ByteArray) (n : Int) (l : Value) (at_ e : Int) : (set8 w b L k o s n l at_ e).heap.size = w.heap.size := by simp [World.setCell]
theorem res_told {fn : Func} {p : Tmp} (h : fn.results = #[.cell p 30]) (tmps : Array Value) (w : World) (b : Nat) (L : Value) (k o : Int) (s : ByteArray) (n : Int) (l : Value) (at_ e : Int) (hL : L.oneCell' = true) (hl : l.oneCell' = true) (hp : tmps.getD p undef = .pointer (some ⟨b, 0, none⟩)) (hg : w.heap[b]? = some (tolO L k o s n l at_ e)) :
    (results fn tmps).run Tryz.prog w = .ok (tolV L k o s n l at_ e) w :=
  results_cell_row h tmps w b _ _ _ _ hp hg Tryz.underlying30 rfl (by kernel_rfl)

theorem nrm_in {Q : Exit → Act → World → Prop} {a : Act} {w : World} (h : Q .normal a w) : Nrm Q .normal a w := h

theorem finP_kp {st : PS} (nv : Nv st) (len : Nat) : Kp st (finP len st) := by
  unfold finP
  split
  · exact Kp.refl nv
  · exact fail_kp _ _ (by decide)
theorem xr_bad {s : ByteArray} {f : Nat} (nv : Nv (begP s)) (h : (begP s).e ≠ 0) : (xrP s f).2.e = (begP s).e ∧ (xrP s f).2.pl = (begP s).pl := by
  have k1 := ex_kp s.size f (begP s) nv
  have k2 := finP_kp (k1.nv nv) s.size
  exact (k1.trans k2).bad h

set_option maxHeartbeats 4000000 in
theorem rexpr_err (s : ByteArray) (f : Nat) (w : World) (P E : Int) (hE : E ≠ 0) (hx : (xrP s f).2.e = E ∧ (xrP s f).2.pl = P) (hT : ∀ W, Calls Tryz.prog 17 #[.string s] W fun e w' => e = .returned (.agg #[.slice none 0 0, .int .i64 P, .int .i64 E]) ∧ Ext W w') : Calls Tryz.prog 11 #[.string s] w (RTold (xrP s f) w) := by
  have HX := hide hx
  have HT := hide hT
  have HE := hide hE
  have he1 : (E == 0) = false := by simpa using hE
  have he2 : (E != 0) = true := by simp [hE]
  clear hx hT hE
  go_enter Tryz.func11, Tryz.ntmps11
  go_wp2_with (go_at_call 17; refine Calls.mono (unhide HT _) ?_; rintro e w1 ⟨rfl, hw⟩; have X1 := hide ((Ext.alloc _ _).trans hw); have R1 := hide (hw.row (Go.heap_alloc_new w _)); have hz1 : w.heap.size < w1.heap.size := (Array.getElem?_eq_some_iff.1 (unhide R1)).1; have r0 := rowC (unhide R1) 0 rfl; have r1 := rowC (unhide R1) 1 rfl; have r2 := rowC (unhide R1) 2 rfl; have r3 := rowC (unhide R1) 3 rfl; have r4 := rowC (unhide R1) 4 rfl; have r5 := rowC (unhide R1) 5 rfl; have r6 := rowC (unhide R1) 6 rfl; have r7 := rowC (unhide R1) 7 rfl; have rz := rowF (unhide R1); clear hw)
  have hrowF := (Ext.alloc (set8 w1 w.heap.size (.slice none 0 0) 0 0 emptyB 0 (.slice none 0 0) P E) (.cells #[.slice none 0 0, .int .i64 P, .int .i64 E] 50)).row (set8_row (unhide R1) (.slice none 0 0) 0 0 emptyB 0 (.slice none 0 0) P E)
  exact bodyPost_ret (v := tolV (.slice none 0 0) 0 0 emptyB 0 (.slice none 0 0) P E) (res_told Tryz.results11 _ _ w.heap.size _ _ _ _ _ _ _ _ rfl rfl rfl hrowF) rfl ⟨(set8_ext (unhide X1) (Nat.le_refl _) _ _ _ _ _ _ _ _).trans (Ext.alloc _ _), Or.inl ⟨by rw [(unhide HX).1]; exact unhide HE, by rw [(unhide HX).1, (unhide HX).2]⟩⟩

theorem Sl.ownR {w1 : World} {base : Nat} {v : Value} {ts : List Tk} (hown : w1.ownsRow base 78 4 v ts.length (ts.flatMap tkC)) : ∃ a cap, v = .slice a ts.length cap ∧ ∀ W g, Ext w1 W → w1.heap.size ≤ g → Sl W g (.slice a ts.length cap) ts := by
  obtain ⟨hlen, ⟨e, h0⟩ | ⟨b, cap, cur, rfl, hb, hrow, hc, hcm, _⟩⟩ := id hown
  · have : ts = [] := List.length_eq_zero_iff.1 h0
    subst this
    exact ⟨none, 0, e, fun W g _ _ => slNil _ _⟩
  · exact ⟨_, cap, rfl, fun W g x hg => ⟨_, cap, rfl, hc, by unfold maxLen at hcm; omega, Or.inr ⟨b, 0, rfl, Nat.lt_of_lt_of_le (Array.getElem?_eq_some_iff.1 hrow).1 hg, fun j u hu => x.cell (cells_own hown j u hu)⟩⟩⟩

set_option maxHeartbeats 8000000 in
theorem rexpr_ok (s : ByteArray) (f : Nat) (w : World) (hs : s.size ≤ 4000) (hn : (lexF (s.size + 1) s 0).2 = none) (hf : (begP s).ts.length < f) (hf2 : f ≤ 100000) : Calls Tryz.prog 11 #[.string s] w (RTold (xrP s f) w) := by
  have hb := begP_good hs hn
  have hTl := lexF_len (s.size + 1) s 0
  have htk := lexF_ok s (s.size + 1)
  have HT : Hd (∀ W, Calls Tryz.prog 17 #[.string s] W fun e w' => ∃ a cap, e = .returned (.agg #[.slice a (lexF (s.size + 1) s 0).1.length cap, .int .i64 0, .int .i64 0]) ∧ (∀ W2 g, Ext w' W2 → w'.heap.size ≤ g → Sl W2 g (.slice a (lexF (s.size + 1) s 0).1.length cap) (lexF (s.size + 1) s 0).1) ∧ Ext W w') := fun W => by
    refine Calls.mono (rtokens_any s W (by omega)) ?_
    rintro e w' (⟨h9, _⟩ | ⟨_, b, h9, _⟩ | ⟨_, _, v, base, rfl, hbs, hown, hw⟩)
    · omega
    · rw [hn] at h9; cases h9
    · obtain ⟨a, cap, rfl, h9⟩ := Sl.ownR hown
      exact ⟨a, cap, rfl, h9, hw⟩
  have hx : xrP s f = ((exP s.size f (begP s)).1, finP s.size (exP s.size f (begP s)).2) := rfl
  rw [hb] at hx hf
  obtain ⟨RS, hRS⟩ : ∃ RS, RS = xrP s f := ⟨_, rfl⟩
  rw [← hRS]
  rw [hx] at hRS
  have HRS := hide hRS
  generalize (lexF (s.size + 1) s 0).1 = T at *
  simp only at hf
  have HEx := hide (fun (W : World) (g : Nat) (x : Rp W g s.size T 0 ⟨T, 0, 0, 0⟩) => rex (g := g) (len := s.size) (T := T) (wd := 0) f hf2 ⟨T, 0, 0, 0⟩ hf W x)
  have HRp : Hd (∀ W g V, W.heap[g]? = some (rpO V 0 0 0 0 s.size 0) → Sl W g V T → Rp W g s.size T 0 ⟨T, 0, 0, 0⟩) := fun W g V h1 h2 => ⟨⟨V, 0, 0, 0, h1, h2, Nat.zero_le _, fun _ => ⟨rfl, rfl⟩, fun e => absurd rfl e⟩, ⟨fun _ => ⟨(show (0 : Int) ≤ 0 by decide), (show (0 : Int) ≤ 24 by decide)⟩, fun e => absurd rfl e⟩, htk, by omega⟩
  generalize exP s.size f ⟨T, 0, 0, 0⟩ = q at *
  obtain ⟨qn, st2⟩ := q
  clear hRS hx hb hn htk
  go_enter Tryz.func11, Tryz.ntmps11
  go_wp2_with (go_at_call 17; refine Calls.mono (unhide HT _) ?_; rintro e w1 ⟨a, cap, rfl, hsl, hw⟩; have X1 := hide ((Ext.alloc _ _).trans hw); have R1 := hide (hw.row (Go.heap_alloc_new w _)); have HSl := hide hsl; have hz1 : w.heap.size < w1.heap.size := (Array.getElem?_eq_some_iff.1 (unhide R1)).1; clear hw hsl)
  obtain ⟨W2, hW2⟩ : ∃ W2, W2 = ((w1.alloc (.cells #[.slice a T.length cap, .int .i64 0, .int .i64 0] 50)).alloc (rpO (.slice a T.length cap) 0 0 0 0 s.size 0)) := ⟨_, rfl⟩
  have hX2 : Ext w1 W2 := by rw [hW2]; exact (Ext.alloc _ _).trans (Ext.alloc _ _)
  have hrow2 : W2.heap[w1.heap.size + 1]? = some (rpO (.slice a T.length cap) 0 0 0 0 s.size 0) := by
    have := Go.heap_alloc_new (w1.alloc (.cells #[.slice a T.length cap, .int .i64 0, .int .i64 0] 50)) (rpO (.slice a T.length cap) 0 0 0 0 s.size 0)
    rw [size_alloc] at this
    rw [hW2]; exact this
  have hP2 := unhide HRp W2 (w1.heap.size + 1) _ hrow2 (unhide HSl W2 _ hX2 (by omega))
  have HX3 := hide (unhide HEx W2 (w1.heap.size + 1) hP2)
  have R2 := hide (hX2.row (unhide R1))
  have X2 := hide ((unhide X1).trans hX2)
  have hg2 : w1.heap.size + 1 < W2.heap.size := hP2.lt
  refine gen_world (F := fun W => Calls _ _ _ W _) ?_
  intro W9 hW9
  obtain rfl : W9 = W2 := hW9.trans hW2.symm
  clear hW2 hX2 hrow2 hP2 hW9 HRp HEx HSl HT X1 R1
  go_wp2_with (go_at_call 22; refine Calls.mono (unhide HX3) ?_; rintro e w3 ⟨v, p, rfl, hr, hp, hs, hw⟩; obtain ⟨k, o, sx, n, l⟩ := p; rw [RepN] at hr; obtain ⟨a3, cap3, rfl, hcap3, hl3⟩ := hr; have S3 := hide hs; have P3 := hide hp; have L3 := hide hl3; have X3 := hide ((unhide X2).gr hw (by omega)); have R3 := hide (hw.row (unhide R2) (by omega)); have hz3 : W9.heap.size ≤ w3.heap.size := hw.size; clear hw hs hl3 hp)
  obtain ⟨W4, hW4⟩ : ∃ W4, W4 = w3.alloc (nodO k o sx n (.slice a3 l.length cap3)) := ⟨_, rfl⟩
  have hX4 : Ext w3 W4 := by rw [hW4]; exact Ext.alloc _ _
  have hN4 : W4.heap[w3.heap.size]? = some (nodO k o sx n (.slice a3 l.length cap3)) := by rw [hW4]; exact Go.heap_alloc_new w3 _
  have hP4 : Rp W4 (w1.heap.size + 1) s.size T 0 st2 := (unhide S3).ext hX4
  have hR4 := hX4.row (unhide R3)
  refine gen_world (F := fun W => Code.wp _ _ _ _ W) ?_
  intro W9b hW9
  obtain rfl : W9b = W4 := hW9.trans hW4.symm
  have X4 := hide ((unhide X3).trans hX4)
  have L4 : Hd (RepNL W9b (fun b => b < W9b.heap.size ∧ b ≠ w.heap.size) l a3) := RepNL.to (fun b hb => ⟨⟨Nat.lt_of_lt_of_le hb.2 hX4.size, by have := hb.1; omega⟩, hX4.block b hb.2⟩) _ _ (unhide L3)
  have R4 := hide hR4
  have N4 := hide hN4
  have P4 := hide hP4
  have hz4 : w3.heap.size < W9b.heap.size := (Array.getElem?_eq_some_iff.1 hN4).1
  obtain ⟨V, i, pl, dp, hrow, hSl, hiT, h4, h5⟩ := hP4.ex
  obtain ⟨a4, cap4, rfl, _⟩ := hSl
  have hnil := hP4.nv.nil
  obtain ⟨c0, c1, c2, c3, c4, c5, c6, zf⟩ := rp_c hrow
  have HRow := hide hrow
  have HW : Nonempty (RGw W9b) := ⟨⟨W9b, Ext.refl _⟩⟩
  have k0 : ∀ y : RGw W9b, y.w.cell? ⟨w1.heap.size + 1, 0, none⟩ = some (.slice a4 T.length cap4) := fun y => y.h.cell c0
  have k1 : ∀ y : RGw W9b, y.w.cell? ⟨w1.heap.size + 1, 1, none⟩ = some (.int .i64 (i : Int)) := fun y => y.h.cell c1
  clear hW4 hX4 hN4 hP4 hR4 hW9 S3 L3 X3 R3 HX3 R2 X2 c0 c1 c2 c3 c4 c5 c6 zf hrow
  refine wp_region_rx (W := W9b) (by kernel_rfl) (by kernel_rfl) (Ext.refl _) ?_
  repeat (go_big_quiet_step (fail))
  refine wpQuiet_nil ?_
  rintro w5 ⟨n5, hn5⟩
  have hx5 : Ext W9b w5 := hn5 ▸ n5.h
  clear hn5 n5 k0 k1 HW
  have X5 := hide ((unhide X4).trans hx5)
  have P5 := hide ((unhide P4).ext hx5)
  have R5 := hide (hx5.row (unhide R4))
  have N5 := hide (hx5.row (unhide N4))
  have L5 : Hd (RepNL w5 (fun b => b < w5.heap.size ∧ b ≠ w.heap.size) l a3) := RepNL.to (fun b hb => ⟨⟨Nat.lt_of_lt_of_le hb.1 hx5.size, hb.2⟩, hx5.block b hb.1⟩) _ _ (unhide L4)
  have hrow5 := hx5.row (unhide HRow)
  have hz5 : w.heap.size < w5.heap.size := (Array.getElem?_eq_some_iff.1 (unhide R5)).1
  have hwg : (w.heap.size == w1.heap.size + 1) = false := by simp; omega
  clear X4 P4 R4 N4 L4 HRow hx5
  by_cases hi : i < T.length
  · have hi2 : (i : Int) < (T.length : Int) := by omega
    have HF := hide (fun (W : World) (x : Rp W (w1.heap.size + 1) s.size T 0 st2) => fail_r x 10 (by decide))
    have hfe : (st2.fail s.size 10).e ≠ 0 := by
      unfold PS.fail
      split
      · exact (show ¬ (10 : Int) = 0 by decide)
      · assumption
    have hRS2 : RS.2.e = (st2.fail s.size 10).e ∧ RS.2.pl = (st2.fail s.size 10).pl := by
      rw [unhide HRS]
      show (finP s.size st2).e = _ ∧ _
      by_cases h0 : st2.e = 0
      · have hne : ¬ st2.ts.length = 0 := by rw [← (h4 h0).1, List.length_drop]; omega
        unfold finP
        rw [if_neg hne]
        exact ⟨rfl, rfl⟩
      · have hts := hnil h0
        unfold finP
        rw [if_pos (by rw [hts]; rfl)]
        unfold PS.fail
        rw [if_neg h0]
        exact ⟨rfl, rfl⟩
    have HE1 := hide hRS2.1
    have HE2 := hide hRS2.2
    have HEN := hide hfe
    generalize hfs : st2.fail s.size 10 = stF at *
    have he1 : (stF.e == 0) = false := by simpa using hfe
    have he2 : (stF.e != 0) = true := by simp [hfe]
    clear hRS2 hfe h4 h5 hrow5 hfs
    generalize T.length = N at *
    go_wp2_with (have T9 := unhide P5; go_at_call 23; refine Calls.mono (unhide HF _ T9) ?_; rintro e w6 ⟨rfl, hs6, hw⟩; have X6 := hide ((unhide X5).gr hw (by omega)); have R6 := hide (hw.row (unhide R5) (by omega)); obtain ⟨V6, i6, pl6, dp6, hrow6, _, _, _, h56⟩ := hs6.ex; obtain ⟨c0, c1, c2, c3, c4, c5, c6, zf⟩ := rp_c hrow6; rw [h56 (unhide HEN)] at c3; have r0 := rowC (unhide R6) 0 rfl; have r1 := rowC (unhide R6) 1 rfl; have r2 := rowC (unhide R6) 2 rfl; have r3 := rowC (unhide R6) 3 rfl; have r4 := rowC (unhide R6) 4 rfl; have r5 := rowC (unhide R6) 5 rfl; have r6 := rowC (unhide R6) 6 rfl; have r7 := rowC (unhide R6) 7 rfl; have rz := rowF (unhide R6); clear hw hs6 hrow6 h56 T9)
    refine wp_nrm ?_
    first | skip; go_region_law (first | fail) | fail
    all_goals
      refine nrm_in ?_
      go_wp2_with fail
      have hrowF : (set8 w6 w.heap.size (.slice none 0 0) 0 0 emptyB 0 (.slice none 0 0) stF.pl stF.e).drew.heap[w.heap.size]? = some (tolO (.slice none 0 0) 0 0 emptyB 0 (.slice none 0 0) stF.pl stF.e) := (Ext.drew (Ext.refl _)).row (set8_row (unhide R6) _ _ _ _ _ _ _ _)
      exact bodyPost_ret (v := tolV (.slice none 0 0) 0 0 emptyB 0 (.slice none 0 0) stF.pl stF.e) (res_told Tryz.results11 _ _ w.heap.size _ _ _ _ _ _ _ _ rfl rfl rfl hrowF) rfl ⟨(set8_ext (unhide X6) (Nat.le_refl _) _ _ _ _ _ _ _ _).drew, Or.inl ⟨by rw [unhide HE1]; exact unhide HEN, by rw [unhide HE1, unhide HE2]⟩⟩
  · have hi2 : ¬ (i : Int) < (T.length : Int) := by omega
    by_cases h0 : st2.e = 0
    · have hts : st2.ts = [] := by rw [← (h4 h0).1]; exact List.drop_eq_nil_of_le (by omega)
      have hRS2 : RS = (qn, st2) := by
        rw [unhide HRS]
        unfold finP
        rw [if_pos (by rw [hts]; rfl)]
      have HRS2 := hide hRS2
      have H0 := hide h0
      rw [h0] at hrow5
      obtain ⟨c0, c1, c2, c3, c4, c5, c6, zf⟩ := rp_c hrow5
      have r0 := rowC (unhide R5) 0 rfl
      have r1 := rowC (unhide R5) 1 rfl
      have r2 := rowC (unhide R5) 2 rfl
      have r3 := rowC (unhide R5) 3 rfl
      have r4 := rowC (unhide R5) 4 rfl
      have r5 := rowC (unhide R5) 5 rfl
      have r6 := rowC (unhide R5) 6 rfl
      have r7 := rowC (unhide R5) 7 rfl
      have rz := rowF (unhide R5)
      have q0 := rowC (unhide N5) 0 rfl
      have q1 := rowC (unhide N5) 1 rfl
      have q2 := rowC (unhide N5) 2 rfl
      have q3 := rowC (unhide N5) 3 rfl
      have q4 := rowC (unhide N5) 4 rfl
      clear hRS2 h4 h5 hrow5 h0
      generalize T.length = N at *
      go_wp2_with fail
      have hrowF : (set8 w5 w.heap.size (.slice none 0 0) k o sx n (.slice a3 l.length cap3) 0 0).heap[w.heap.size]? = some (tolO (.slice none 0 0) k o sx n (.slice a3 l.length cap3) 0 0) := set8_row (unhide R5) _ _ _ _ _ _ _ _
      refine bodyPost_ret (v := tolV (.slice none 0 0) k o sx n (.slice a3 l.length cap3) 0 0) (res_told Tryz.results11 _ _ w.heap.size _ _ _ _ _ _ _ _ rfl rfl rfl hrowF) rfl ⟨set8_ext (unhide X5) (Nat.le_refl _) _ _ _ _ _ _ _ _, Or.inr ?_⟩
      rw [unhide HRS2]
      refine ⟨unhide H0, k, o, sx, n, a3, l.length, cap3, rfl, ?_⟩
      have e9 := unhide P3 (unhide H0)
      simp only at e9 ⊢
      rw [← e9, RepN]
      refine ⟨a3, cap3, rfl, hcap3, ?_⟩
      refine RepNL.to (fun b hb => ?_) _ _ (unhide L5)
      exact ⟨by show b < _; rw [set8_size]; exact hb.1, set8_block hb.2 _ _ _ _ _ _ _ _⟩
    · have hts := hnil h0
      have hRS2 : RS.2.e = st2.e ∧ RS.2.pl = st2.pl := by
        rw [unhide HRS]
        show (finP s.size st2).e = _ ∧ _
        unfold finP
        rw [if_pos (by rw [hts]; rfl)]
        exact ⟨rfl, rfl⟩
      have HE1 := hide hRS2.1
      have HE2 := hide hRS2.2
      have HEN := hide h0
      have he1 : (st2.e == 0) = false := by simpa using h0
      have he2 : (st2.e != 0) = true := by simp [h0]
      obtain ⟨c0, c1, c2, c3, c4, c5, c6, zf⟩ := rp_c hrow5
      rw [h5 h0] at c3
      have r0 := rowC (unhide R5) 0 rfl
      have r1 := rowC (unhide R5) 1 rfl
      have r2 := rowC (unhide R5) 2 rfl
      have r3 := rowC (unhide R5) 3 rfl
      have r4 := rowC (unhide R5) 4 rfl
      have r5 := rowC (unhide R5) 5 rfl
      have r6 := rowC (unhide R5) 6 rfl
      have r7 := rowC (unhide R5) 7 rfl
      have rz := rowF (unhide R5)
      clear hRS2 h4 h5 hrow5 h0
      generalize T.length = N at *
      go_wp2_with fail
      refine wp_nrm ?_
      first | skip; go_region_law (first | fail) | fail
      all_goals
        refine nrm_in ?_
        go_wp2_with fail
        have hrowF : (set8 w5 w.heap.size (.slice none 0 0) 0 0 emptyB 0 (.slice none 0 0) st2.pl st2.e).drew.heap[w.heap.size]? = some (tolO (.slice none 0 0) 0 0 emptyB 0 (.slice none 0 0) st2.pl st2.e) := (Ext.drew (Ext.refl _)).row (set8_row (unhide R5) _ _ _ _ _ _ _ _)
        exact bodyPost_ret (v := tolV (.slice none 0 0) 0 0 emptyB 0 (.slice none 0 0) st2.pl st2.e) (res_told Tryz.results11 _ _ w.heap.size _ _ _ _ _ _ _ _ rfl rfl rfl hrowF) rfl ⟨(set8_ext (unhide X5) (Nat.le_refl _) _ _ _ _ _ _ _ _).drew, Or.inl ⟨by rw [unhide HE1]; exact unhide HEN, by rw [unhide HE1, unhide HE2]⟩⟩

theorem rexpr_any (s : ByteArray) (f : Nat) (w : World) (hmax : s.size ≤ 9223372036854775807) (hf : (begP s).ts.length < f) (hf2 : f ≤ 100000) : Calls Tryz.prog 11 #[.string s] w (RTold (xrP s f) w) := by
  by_cases hs : 4000 < s.size
  · have hb := begP_long hs
    have hx := xr_bad (s := s) (f := f) (by rw [hb]; exact ⟨fun e => absurd e (show ¬ (2 : Int) = 0 by decide), fun _ => rfl⟩) (by rw [hb]; exact (show ¬ (2 : Int) = 0 by decide))
    rw [hb] at hx
    refine rexpr_err s f w 0 2 (by decide) hx fun W => Calls.mono (rtokens_any s W (by omega)) ?_
    rintro e w' (⟨_, he, hw⟩ | ⟨h9, _⟩ | ⟨h9, _⟩)
    · exact ⟨he, hw⟩
    · omega
    · omega
  · cases hn : (lexF (s.size + 1) s 0).2 with
    | some b =>
      have hb := begP_bad (by omega) hn
      have hx := xr_bad (s := s) (f := f) (by rw [hb]; exact ⟨fun e => absurd e (show ¬ (10 : Int) = 0 by decide), fun _ => rfl⟩) (by rw [hb]; exact (show ¬ (10 : Int) = 0 by decide))
      rw [hb] at hx
      refine rexpr_err s f w b 10 (by decide) hx fun W => Calls.mono (rtokens_any s W (by omega)) ?_
      rintro e w' (⟨h9, _⟩ | ⟨_, b2, h9, he, hw⟩ | ⟨_, h9, _⟩)
      · omega
      · rw [hn] at h9
        injection h9 with h9
        subst h9
        exact ⟨he, hw⟩
      · rw [hn] at h9; cases h9
    | none => exact rexpr_ok s f w (by omega) hn hf hf2

end Go.Proofs.YthoablpjkgeekaaGreatDoor
