/- The walk of the law ValNests: lists may stand within one another as deep as the bound says; one deeper is none. -/
import Derived.Test.YtmcmfgihdhfcdaaDoorReadNest
import Derived.Test.YtmcmfgihdhfcdaaDoorValSameB
import Derived.Test.YtmcmfgihdhfcdaaDoorLawOrders
set_option linter.unusedSimpArgs false
set_option maxRecDepth 10000
namespace Go.Proofs.YtmcmfgihdhfcdaaDoor
open Go.RowKit

theorem rlist_any (a : Option Addr) (c n : Nat) (w : World) : Calls Tryd.prog 13 #[.slice a n c] w fun e w' => e = .returned (.agg #[.int .i64 4, .int .i64 0, .complex .f64 0 0, .string ⟨#[]⟩, .slice a n c]) ∧ Ext w w' := by
  go_enter Tryd.func13, Tryd.ntmps13
  go_wp2_with fail
  go_returns
  exact ⟨rfl, Ext.alloc _ _⟩

/-- The value under way lies in the block V: a five within j lists. -/
def At (w : World) (V j : Nat) (a : Option Addr) (c : Nat) : Prop :=
  w.heap[V]? = some (.cells #[.int .i64 (nest j).k, .int .i64 (nest j).n, .complex .f64 (nest j).re (nest j).im, .string (nest j).s, .slice a (nest j).l.length c] 25 (0, 0)) ∧
  Bd (nest j).k (nest j).n (nest j).re (nest j).im (nest j).s (nest j).l.length c ∧ RepL w (fun b => V < b ∧ b < w.heap.size) (nest j).l a

theorem At.rep {w : World} {V j : Nat} {a : Option Addr} {c : Nat} (h : At w V j a c) : Rep w (In w) (nest j) (.agg #[.int .i64 (nest j).k, .int .i64 (nest j).n, .complex .f64 (nest j).re (nest j).im, .string (nest j).s, .slice a (nest j).l.length c]) := by
  obtain ⟨_, hb, hl⟩ := h
  cases hq : nest j with
  | mk k n re im s l =>
    rw [hq] at hb hl
    rw [Rep]
    exact ⟨a, c, rfl, hb, RepL.to (fun b hb => ⟨hb.2, rfl⟩) _ _ hl⟩

theorem At.start (w : World) : At (w.alloc (.cells #[.int .i64 1, .int .i64 5, .complex .f64 0 0, .string ⟨#[]⟩, .slice none 0 0] 25)) w.heap.size 0 none 0 :=
  ⟨Go.heap_alloc_new w _, bd0 (by decide) (by decide) (by decide) (by decide) (by decide) (by decide) (by decide), by simp [nest, it, PV.l, RepL]⟩

theorem At.step {wr w2 : World} {V j : Nat} {a : Option Addr} {c : Nat} (h : At wr V j a c)
    (hw : Ext (wr.alloc (.cells #[.int .i64 (nest j).k, .int .i64 (nest j).n, .complex .f64 (nest j).re (nest j).im, .string (nest j).s, .slice a (nest j).l.length c] 25)) w2) :
    At (((((w2.setCell ⟨V, 0, none⟩ (.int .i64 4)).setCell ⟨V, 1, none⟩ (.int .i64 0)).setCell ⟨V, 2, none⟩ (.complex .f64 0 0)).setCell ⟨V, 3, none⟩ (.string ⟨#[]⟩)).setCell ⟨V, 4, none⟩ (.slice (some ⟨wr.heap.size, 0, none⟩) 1 1)) V (j + 1) (some ⟨wr.heap.size, 0, none⟩) 1 := by
  obtain ⟨hV, hb, hl⟩ := h
  have hVlt : V < wr.heap.size := (Array.getElem?_eq_some_iff.1 hV).1
  have hx : Ext wr w2 := (Ext.alloc _ _).trans hw
  have hrow := hx.row hV
  have hsz : wr.heap.size + 1 ≤ w2.heap.size := by have := hw.le; simpa using this
  have hkeep : ∀ b, b ≠ V → (((((w2.setCell ⟨V, 0, none⟩ (.int .i64 4)).setCell ⟨V, 1, none⟩ (.int .i64 0)).setCell ⟨V, 2, none⟩ (.complex .f64 0 0)).setCell ⟨V, 3, none⟩ (.string ⟨#[]⟩)).setCell ⟨V, 4, none⟩ (.slice (some ⟨wr.heap.size, 0, none⟩) 1 1)).heap[b]? = w2.heap[b]? := by
    intro b hne
    rw [Below.heap_setCell _ _ _ _ hne, Below.heap_setCell _ _ _ _ hne, Below.heap_setCell _ _ _ _ hne, Below.heap_setCell _ _ _ _ hne, Below.heap_setCell _ _ _ _ hne]
  have hsize : (((((w2.setCell ⟨V, 0, none⟩ (.int .i64 4)).setCell ⟨V, 1, none⟩ (.int .i64 0)).setCell ⟨V, 2, none⟩ (.complex .f64 0 0)).setCell ⟨V, 3, none⟩ (.string ⟨#[]⟩)).setCell ⟨V, 4, none⟩ (.slice (some ⟨wr.heap.size, 0, none⟩) 1 1)).heap.size = w2.heap.size := by simp [World.setCell]
  refine ⟨row_set (row_set (row_set (row_set (row_set hrow _ _) _ _) _ _) _ _) _ _, (show Bd 4 0 0 0 ⟨#[]⟩ 1 1 from ⟨by decide, by decide, by decide, by decide, by decide, by decide, by decide, by decide, by decide⟩), ?_⟩
  · have hcell : ∀ i v, (#[.int .i64 (nest j).k, .int .i64 (nest j).n, .complex .f64 (nest j).re (nest j).im, .string (nest j).s, .slice a (nest j).l.length c] : Array Value)[i]? = some v →
        (((((w2.setCell ⟨V, 0, none⟩ (.int .i64 4)).setCell ⟨V, 1, none⟩ (.int .i64 0)).setCell ⟨V, 2, none⟩ (.complex .f64 0 0)).setCell ⟨V, 3, none⟩ (.string ⟨#[]⟩)).setCell ⟨V, 4, none⟩ (.slice (some ⟨wr.heap.size, 0, none⟩) 1 1)).cell? ⟨wr.heap.size, i, none⟩ = some v := by
      intro i v hi
      rw [World.cell?_of_block (w := w2) (hkeep _ (by show wr.heap.size ≠ V; omega))]
      exact hw.box i hi
    show RepL _ _ [nest j] _
    refine RepL.cons (a := a) (cap := c) ⟨⟨hVlt, by rw [hsize]; omega⟩, hcell 0 _ rfl, hcell 1 _ rfl, hcell 2 _ rfl, hcell 3 _ rfl, hcell 4 _ rfl, hb, RepL.to (fun b hb => ⟨⟨hb.1, by rw [hsize]; exact Nat.lt_of_lt_of_le hb.2 hx.le⟩, ?_⟩) _ _ hl⟩ (by simp [RepL])
    rw [hkeep b (by have := hb.1; omega)]
    exact hx.block b hb.2

theorem At.on {w w' : World} {V j : Nat} {a : Option Addr} {c : Nat} (h : At w V j a c) (he : Ext w w') : At w' V j a c :=
  ⟨he.row h.1, h.2.1, RepL.to (fun b hb => ⟨⟨hb.1, Nat.lt_of_lt_of_le hb.2 he.le⟩, he.block b hb.2⟩) _ _ h.2.2⟩

theorem eq_nest : ∀ k, EqSelf (nest k)
  | 0 => equal_self 1 5 ⟨#[]⟩ [] (fun _ h => by cases h)
  | k + 1 => equal_self 4 0 ⟨#[]⟩ [nest k] (fun x h => by
      rw [List.mem_singleton] at h
      rw [h]
      exact eq_nest k)

theorem rep_push (j : Nat) (c : UInt8) : (⟨(List.replicate j c).toArray⟩ : ByteArray) ++ ⟨#[c]⟩ = ⟨(List.replicate (j + 1) c).toArray⟩ := by
  apply ByteArray.ext
  rw [ByteArray.data_append]
  apply Array.ext'
  rw [Array.toList_append, List.replicate_succ']

theorem text_nest (n : Nat) (s t : ByteArray) (hs : s = ⟨(List.replicate n 91).toArray⟩) (ht : t = ⟨(List.replicate n 93).toArray⟩) : s ++ ⟨#[53]⟩ ++ t = ⟨(Tx n []).toArray⟩ := by
  apply ByteArray.ext
  rw [hs, ht, Tx_rep, ByteArray.data_append, ByteArray.data_append]
  simp

set_option maxHeartbeats 4000000 in
theorem nests_good (a0 : Int) (w : World) (ht : Tab w.heap.size w) (n : Nat) (hn : (bits .and .i64 a0 65535).tmod 40 = n) (hn1 : n < 40) (hg : n ≤ 24) :
    Calls Tryd.prog 4 #[.int .i64 a0] w fun e w' => e = .returned (.bool true) ∧ Ext w w' := by
  have T := hide ht
  have hg1 : ¬ (24 : Int) < (n : Int) := by omega
  clear ht
  go_enter Tryd.func4, Tryd.ntmps4
  go_wp2_with (go_at_call 12; refine Calls.mono (int_any _ _) ?_; rintro e w1 ⟨rfl, hw1⟩; have W1 := hide hw1; clear hw1)
  go_loopw [4, 5, 6] (fun sv tv i wr => ∃ (j : Nat) (s t : ByteArray) (a : Option Addr) (c : Nat), sv = .string s ∧ tv = .string t ∧ i = .int .i64 j ∧ j ≤ n ∧ Hd (s = ⟨(List.replicate j 91).toArray⟩) ∧ Hd (t = ⟨(List.replicate j 93).toArray⟩) ∧ Hd (At wr w1.heap.size j a c) ∧ Hd (Ext w wr)) (fun _ _ i _ => n - (intOf i).toNat)
  case atStart => exact ⟨0, ⟨#[]⟩, ⟨#[]⟩, none, 0, rfl, rfl, rfl, by omega, rfl, rfl, At.start w1, (unhide W1).trans (Ext.alloc _ _)⟩
  case round =>
    obtain ⟨j, s, t, a, c, rfl, rfl, rfl, hj, hs, htt, hA, hE⟩ := hrel
    have hrow := (unhide hA).1
    have r0 := rowC hrow 0 rfl
    have r1 := rowC hrow 1 rfl
    have r2 := rowC hrow 2 rfl
    have r3 := rowC hrow 3 rfl
    have r4 := rowC hrow 4 rfl
    have hVlt : w1.heap.size < wr.heap.size := (Array.getElem?_eq_some_iff.1 hrow).1
    by_cases hlt : j < n
    · have hsz1 : s.size = j := by rw [unhide hs]; simp [ByteArray.size]
      have hsz2 : t.size = j := by rw [unhide htt]; simp [ByteArray.size]
      have hfact : ∀ w2, Ext (wr.alloc (.cells #[.int .i64 (nest j).k, .int .i64 (nest j).n, .complex .f64 (nest j).re (nest j).im, .string (nest j).s, .slice a (nest j).l.length c] 25)) w2 → w2.cell? ⟨w1.heap.size, 0, none⟩ = some (.int .i64 (nest j).k) ∧ w2.cell? ⟨w1.heap.size, 1, none⟩ = some (.int .i64 (nest j).n) ∧ w2.cell? ⟨w1.heap.size, 2, none⟩ = some (.complex .f64 (nest j).re (nest j).im) ∧ w2.cell? ⟨w1.heap.size, 3, none⟩ = some (.string (nest j).s) ∧ w2.cell? ⟨w1.heap.size, 4, none⟩ = some (.slice a (nest j).l.length c) ∧ ∀ i, w2.frozen? ⟨w1.heap.size, i, none⟩ = false := by
        intro w2 h2
        have h3 := ((Ext.alloc _ _).trans h2).row hrow
        exact ⟨rowC h3 0 rfl, rowC h3 1 rfl, rowC h3 2 rfl, rowC h3 3 rfl, rowC h3 4 rfl, rowF h3⟩
      have FA := hide hfact
      clear hrow hfact
      go_wp2_with (go_at_call 13; refine Calls.mono (rlist_any _ _ _ _) ?_; rintro e w2 ⟨rfl, hw2⟩; obtain ⟨f0, f1, f2, f3, f4, ff⟩ := unhide FA w2 hw2; have W2 := hide hw2; clear hw2)
      go_roundw
      case rel =>
        refine ⟨j + 1, s ++ ⟨#[91]⟩, t ++ ⟨#[93]⟩, some ⟨wr.heap.size, 0, none⟩, 1, rfl, rfl, by go_num, by omega, ?_, ?_, At.step (unhide hA) (unhide W2), ?_⟩
        · show s ++ ⟨#[91]⟩ = _
          rw [unhide hs]
          exact rep_push j 91
        · show t ++ ⟨#[93]⟩ = _
          rw [unhide htt]
          exact rep_push j 93
        · have h6 : w.heap.size ≤ w1.heap.size := (unhide W1).le
          exact (((((((unhide hE).trans (Ext.alloc _ _)).trans (unhide W2)).set h6 _).set h6 _).set h6 _).set h6 _).set h6 _
      case measure => simp [intOf]; omega
    · have : j = n := by omega
      subst this
      have hsz1 : s.size = j := by rw [unhide hs]; simp [ByteArray.size]
      have hsz2 : t.size = j := by rw [unhide htt]; simp [ByteArray.size]
      have htx := text_nest j s t (unhide hs) (unhide htt)
      have READ := hide (fun w ht => read_good j hg w ht)
      have SHOW := hide (fun v w hr ht => show_nest j hg v w hr ht)
      rw [← htx] at READ SHOW
      have OKC := hide (fun v w hr => okv_any (nest j) v w hr)
      have SZC := hide (fun v w hr => top_any (nest j) v w hr)
      have SMC := hide (fun v v' w hr hr' => same_self (nest j) (eq_nest j) (by rw [okv_nest]; simpa using hg) v v' w hr hr')
      have OK1 := hide (show okv (nest j) = true by rw [okv_nest]; simpa using hg)
      have SZ1 := hide (sz_nest j 0 (by omega))
      have HR := hide hrow
      have XF : Hd (∀ w v, Rep w (In w) (nest j) v → ∃ a2 c2, v = .agg #[.int .i64 (nest j).k, .int .i64 (nest j).n, .complex .f64 (nest j).re (nest j).im, .string (nest j).s, .slice a2 (nest j).l.length c2]) := by
        intro w v h
        cases hq : nest j with
        | mk k' n' re' im' s' l' =>
          rw [hq, Rep] at h
          obtain ⟨a2, c2, rfl, _, _⟩ := h
          exact ⟨a2, c2, rfl⟩
      clear hrow htx
      go_wp2_with (first
        | (go_at_call 14; refine Calls.mono (unhide READ _ (tab_of T (unhide hE))) ?_; rintro e w3 ⟨v3, rfl, hr3, hw3⟩; obtain ⟨a2, c2, rfl⟩ := unhide XF _ _ hr3; clear r0 r1 r2 r3 r4; have row := hw3.row (unhide HR); have r0 := rowC row 0 rfl; have r1 := rowC row 1 rfl; have r2 := rowC row 2 rfl; have r3 := rowC row 3 rfl; have r4 := rowC row 4 rfl; have hv3 : w1.heap.size < w3.heap.size := Nat.lt_of_lt_of_le hVlt hw3.le; have XR := hide hr3; have W3 := hide hw3; clear row hr3 hw3)
        | (go_at_call 8; refine Calls.mono (unhide OKC _ _ ((unhide hA).on ((unhide W3).trans (Ext.alloc _ _))).rep) ?_; rintro e w4 ⟨rfl, hw4⟩; rw [unhide OK1]; clear r0 r1 r2 r3 r4; have y := ((unhide W3).trans (Ext.alloc _ _)).trans hw4; have row := y.row (unhide HR); have r0 := rowC row 0 rfl; have r1 := rowC row 1 rfl; have r2 := rowC row 2 rfl; have r3 := rowC row 3 rfl; have r4 := rowC row 4 rfl; have x0 := hw4.box 0 rfl; have x1 := hw4.box 1 rfl; have x2 := hw4.box 2 rfl; have x3 := hw4.box 3 rfl; have x4 := hw4.box 4 rfl; have W4 := hide y; have X4 := hide hw4; clear row y hw4)
        | (go_at_call 16; refine Calls.mono (unhide SMC _ _ _ ((unhide XR).ext ((Ext.alloc _ _).trans (unhide X4))) ((unhide hA).on (unhide W4)).rep) ?_; rintro e w5 ⟨rfl, hw5⟩; clear r0 r1 r2 r3 r4; have y := (unhide W4).trans hw5; have row := y.row (unhide HR); have r0 := rowC row 0 rfl; have r1 := rowC row 1 rfl; have r2 := rowC row 2 rfl; have r3 := rowC row 3 rfl; have r4 := rowC row 4 rfl; have W5 := hide y; clear row y hw5)
        | (go_at_call 15; refine Calls.mono (unhide SHOW _ _ ((unhide hA).on (unhide W5)).rep (tab_of T ((unhide hE).trans (unhide W5)))) ?_; rintro e w6 ⟨rfl, hw6⟩; clear r0 r1 r2 r3 r4; have y := (unhide W5).trans hw6; have row := y.row (unhide HR); have r0 := rowC row 0 rfl; have r1 := rowC row 1 rfl; have r2 := rowC row 2 rfl; have r3 := rowC row 3 rfl; have r4 := rowC row 4 rfl; have W6 := hide y; clear row y hw6)
        | (go_at_call 6; refine Calls.mono (unhide SZC _ _ ((unhide hA).on (unhide W6)).rep) ?_; rintro e w7 ⟨rfl, hw7⟩; rw [unhide SZ1]; have W7 := hide ((unhide W6).trans hw7); clear hw7)
        | (go_at_call 7; refine Calls.mono (vawake_any _ (tab_of T ((unhide hE).trans (unhide W7)))) ?_; rintro e w8 ⟨rfl, hw8⟩; have WZ := hide (((unhide hE).trans (unhide W7)).trans hw8); clear hw8))
      go_ret
      exact ⟨rfl, unhide WZ⟩

set_option maxHeartbeats 4000000 in
theorem nests_deep (a0 : Int) (w : World) (ht : Tab w.heap.size w) (n : Nat) (hn : (bits .and .i64 a0 65535).tmod 40 = n) (hn1 : n < 40) (hg : ¬ n ≤ 24) :
    Calls Tryd.prog 4 #[.int .i64 a0] w fun e w' => e = .returned (.bool true) ∧ Ext w w' := by
  have T := hide ht
  have hg1 : (24 : Int) < (n : Int) := by omega
  clear ht
  go_enter Tryd.func4, Tryd.ntmps4
  go_wp2_with (go_at_call 12; refine Calls.mono (int_any _ _) ?_; rintro e w1 ⟨rfl, hw1⟩; have W1 := hide hw1; clear hw1)
  go_loopw [4, 5, 6] (fun sv tv i wr => ∃ (j : Nat) (s t : ByteArray) (a : Option Addr) (c : Nat), sv = .string s ∧ tv = .string t ∧ i = .int .i64 j ∧ j ≤ n ∧ Hd (s = ⟨(List.replicate j 91).toArray⟩) ∧ Hd (t = ⟨(List.replicate j 93).toArray⟩) ∧ Hd (At wr w1.heap.size j a c) ∧ Hd (Ext w wr)) (fun _ _ i _ => n - (intOf i).toNat)
  case atStart => exact ⟨0, ⟨#[]⟩, ⟨#[]⟩, none, 0, rfl, rfl, rfl, by omega, rfl, rfl, At.start w1, (unhide W1).trans (Ext.alloc _ _)⟩
  case round =>
    obtain ⟨j, s, t, a, c, rfl, rfl, rfl, hj, hs, htt, hA, hE⟩ := hrel
    have hrow := (unhide hA).1
    have r0 := rowC hrow 0 rfl
    have r1 := rowC hrow 1 rfl
    have r2 := rowC hrow 2 rfl
    have r3 := rowC hrow 3 rfl
    have r4 := rowC hrow 4 rfl
    have hVlt : w1.heap.size < wr.heap.size := (Array.getElem?_eq_some_iff.1 hrow).1
    by_cases hlt : j < n
    · have hsz1 : s.size = j := by rw [unhide hs]; simp [ByteArray.size]
      have hsz2 : t.size = j := by rw [unhide htt]; simp [ByteArray.size]
      have hfact : ∀ w2, Ext (wr.alloc (.cells #[.int .i64 (nest j).k, .int .i64 (nest j).n, .complex .f64 (nest j).re (nest j).im, .string (nest j).s, .slice a (nest j).l.length c] 25)) w2 → w2.cell? ⟨w1.heap.size, 0, none⟩ = some (.int .i64 (nest j).k) ∧ w2.cell? ⟨w1.heap.size, 1, none⟩ = some (.int .i64 (nest j).n) ∧ w2.cell? ⟨w1.heap.size, 2, none⟩ = some (.complex .f64 (nest j).re (nest j).im) ∧ w2.cell? ⟨w1.heap.size, 3, none⟩ = some (.string (nest j).s) ∧ w2.cell? ⟨w1.heap.size, 4, none⟩ = some (.slice a (nest j).l.length c) ∧ ∀ i, w2.frozen? ⟨w1.heap.size, i, none⟩ = false := by
        intro w2 h2
        have h3 := ((Ext.alloc _ _).trans h2).row hrow
        exact ⟨rowC h3 0 rfl, rowC h3 1 rfl, rowC h3 2 rfl, rowC h3 3 rfl, rowC h3 4 rfl, rowF h3⟩
      have FA := hide hfact
      clear hrow hfact
      go_wp2_with (go_at_call 13; refine Calls.mono (rlist_any _ _ _ _) ?_; rintro e w2 ⟨rfl, hw2⟩; obtain ⟨f0, f1, f2, f3, f4, ff⟩ := unhide FA w2 hw2; have W2 := hide hw2; clear hw2)
      go_roundw
      case rel =>
        refine ⟨j + 1, s ++ ⟨#[91]⟩, t ++ ⟨#[93]⟩, some ⟨wr.heap.size, 0, none⟩, 1, rfl, rfl, by go_num, by omega, ?_, ?_, At.step (unhide hA) (unhide W2), ?_⟩
        · show s ++ ⟨#[91]⟩ = _
          rw [unhide hs]
          exact rep_push j 91
        · show t ++ ⟨#[93]⟩ = _
          rw [unhide htt]
          exact rep_push j 93
        · have h6 : w.heap.size ≤ w1.heap.size := (unhide W1).le
          exact (((((((unhide hE).trans (Ext.alloc _ _)).trans (unhide W2)).set h6 _).set h6 _).set h6 _).set h6 _).set h6 _
      case measure => simp [intOf]; omega
    · have : j = n := by omega
      subst this
      have hsz1 : s.size = j := by rw [unhide hs]; simp [ByteArray.size]
      have hsz2 : t.size = j := by rw [unhide htt]; simp [ByteArray.size]
      have htx := text_nest j s t (unhide hs) (unhide htt)
      have READ := hide (fun w ht => read_deep j hg (by omega) w ht)
      have SHOW := hide (fun v w hr ht => show_deep j hg v w hr ht)
      rw [← htx] at READ
      have OKC := hide (fun v w hr => okv_any (nest j) v w hr)
      have OK1 := hide (show okv (nest j) = false by rw [okv_nest]; simpa using hg)
      have HR := hide hrow
      clear hrow htx
      go_wp2_with (first
        | (go_at_call 14; refine Calls.mono (unhide READ _ (tab_of T (unhide hE))) ?_; rintro e w3 ⟨rfl, hw3⟩; clear r0 r1 r2 r3 r4; have row := hw3.row (unhide HR); have r0 := rowC row 0 rfl; have r1 := rowC row 1 rfl; have r2 := rowC row 2 rfl; have r3 := rowC row 3 rfl; have r4 := rowC row 4 rfl; have hv3 : w1.heap.size < w3.heap.size := Nat.lt_of_lt_of_le hVlt hw3.le; have W3 := hide hw3; clear row hw3)
        | (go_at_call 8; refine Calls.mono (unhide OKC _ _ ((unhide hA).on ((unhide W3).trans (Ext.alloc _ _))).rep) ?_; rintro e w4 ⟨rfl, hw4⟩; rw [unhide OK1]; clear r0 r1 r2 r3 r4; have y := ((unhide W3).trans (Ext.alloc _ _)).trans hw4; have row := y.row (unhide HR); have r0 := rowC row 0 rfl; have r1 := rowC row 1 rfl; have r2 := rowC row 2 rfl; have r3 := rowC row 3 rfl; have r4 := rowC row 4 rfl; have x0 := hw4.box 0 rfl; have x1 := hw4.box 1 rfl; have x2 := hw4.box 2 rfl; have x3 := hw4.box 3 rfl; have x4 := hw4.box 4 rfl; have W4 := hide y; have X4 := hide hw4; clear row y hw4)
        | (go_at_call 15; refine Calls.mono (unhide SHOW _ _ ((unhide hA).on (unhide W4)).rep (tab_of T ((unhide hE).trans (unhide W4)))) ?_; rintro e w6 ⟨rfl, hw6⟩; clear x0 x1 x2 x3 x4; have z := (unhide X4).trans hw6; have x0 := z.box 0 rfl; have x1 := z.box 1 rfl; have x2 := z.box 2 rfl; have x3 := z.box 3 rfl; have x4 := z.box 4 rfl; have W6 := hide ((unhide W4).trans hw6); clear z hw6)
        | (go_at_call 7; refine Calls.mono (vawake_any _ (tab_of T ((unhide hE).trans (unhide W6)))) ?_; rintro e w8 ⟨rfl, hw8⟩; have WZ := hide (((unhide hE).trans (unhide W6)).trans hw8); clear hw8))
      go_ret
      exact ⟨rfl, unhide WZ⟩

theorem nests_walk (a0 : Int) (w : World) (ht : Tab w.heap.size w) :
    Calls Tryd.prog 4 #[.int .i64 a0] w fun e w' => e = .returned (.bool true) ∧ Ext w w' := by
  obtain ⟨n, hn, hn1⟩ := mask16 a0 40 (by decide)
  by_cases h : n ≤ 24
  · exact nests_good a0 w ht n hn hn1 h
  · exact nests_deep a0 w ht n hn hn1 h

end Go.Proofs.YtmcmfgihdhfcdaaDoor
