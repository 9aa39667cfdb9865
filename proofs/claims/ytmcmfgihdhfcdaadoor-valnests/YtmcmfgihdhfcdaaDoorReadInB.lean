/- The reader at lists within lists around a five: the value that it reads, what is left of the text and of the room. -/
import Derived.Test.YtmcmfgihdhfcdaaDoorReadIn
set_option linter.unusedSimpArgs false
set_option maxRecDepth 10000
namespace Go.Proofs.YtmcmfgihdhfcdaaDoor
open Go.RowKit

/-- A five within so many lists. -/
def nest : Nat → PV
  | 0 => it 5
  | k + 1 => ls [nest k]

def Reads (k : Nat) : Prop := ∀ (R : Nat) (tail : List UInt8) (m : Int) (w : World), Rd w R ⟨(Tx k tail).toArray⟩ m → Stops tail → (k : Int) + 1 ≤ m → m ≤ 1000 →
    Calls Tryd.prog 22 #[.pointer (some ⟨R, 0, none⟩)] w fun e w' => ∃ v, e = .returned (.tuple #[v, .bool true]) ∧ Rep w' (Fresh w w') (nest k) v ∧ Rd w' R ⟨tail.toArray⟩ (m - (k + 1)) ∧ w.grownBy w' (some R)

theorem reads_zero : Reads 0 := by
  intro R tail m w hr hst h1 h2
  have hr0 : Rd w R ⟨(53 :: tail).toArray⟩ m := hr
  have hlt : R < w.heap.size := (Array.getElem?_eq_some_iff.1 hr0).1
  have hne : some w.heap.size ≠ some R := by simp; omega
  have hm1 : 1 ≤ m := by omega
  have NE := hide hne
  have ST := hide hst
  have RR := hide (rd_ext hr0 (Ext.alloc w (.cells #[.int .i64 0, .int .i64 0, .complex .f64 0 0, .string ⟨#[]⟩, .slice none 0 0] 25)))
  have GG := hide (World.grownBy.refl (w.alloc (.cells #[.int .i64 0, .int .i64 0, .complex .f64 0 0, .string ⟨#[]⟩, .slice none 0 0] 25)) (some R))
  have hP := hide (fun w => Tryd.strings_HasPrefix ⟨(53 :: tail).toArray⟩ ⟨#[60]⟩ w)
  clear hr hr0 hst hne
  go_enter Tryd.func22, Tryd.ntmps22
  go_wp2_with (first
    | (go_at_call 28; refine Calls.mono (spend_any R _ m _ (unhide RR) hm1 h2) ?_; rintro e w1 ⟨rfl, hr1, hg1⟩; have RR1 := hide hr1; have GG1 := hide (grown_trans (unhide GG) hg1); clear RR GG hr1 hg1; have RR := RR1; have GG := GG1; clear RR1 GG1)
    | (go_at_call 29; refine Calls.mono (skip_no R (53 :: tail) _ _ _ (unhide RR) (by rfl)) ?_; rintro e w2 ⟨rfl, hr2, hg2⟩; (try clear h0); have h0 := rowC hr2 0 rfl; have RR2 := hide hr2; have GG2 := hide (grown_trans (unhide GG) hg2); clear RR GG hr2 hg2; have RR := RR2; have GG := GG2; clear RR2 GG2)
    | (go_at_call 32; refine Calls.mono (unhide hP _) ?_; rintro e w3 ⟨rfl, rfl⟩)
    | (go_at_call 34; refine Calls.mono (number_any R tail _ _ (unhide RR) (unhide ST)) ?_; rintro e w4 ⟨rfl, hr4, hg4⟩; have RR4 := hide hr4; have gg4 := grown_trans (unhide GG) hg4; have row4 := grown_row gg4 (Go.heap_alloc_new w _) (unhide NE); have q0 := rowC row4 0 rfl; have q1 := rowC row4 1 rfl; have q2 := rowC row4 2 rfl; have q3 := rowC row4 3 rfl; have q4 := rowC row4 4 rfl; have qf := rowF row4; have GG4 := hide gg4; clear hr4 hg4 gg4 row4))
  have hgr := grown_trans (ext_grown (Ext.alloc w _)) (unhide GG4)
  have hRN : R ≠ w.heap.size := by omega
  refine bodyPost_ret (v := .tuple #[fiveV, .bool true]) (by simp [results, Tryd.results22, go_sem, q0, q1, q2, q3, q4]) rfl ⟨_, rfl, ?_, ?_, ?_⟩
  · exact rep_leaf _ _ (bd0 (by decide) (by decide) (by decide) (by decide) (by decide) (by decide) (by decide))
  · have := rd_set (rd_set (rd_set (rd_set (rd_set (unhide RR4) hRN 0 (.int .i64 1)) hRN 1 (.int .i64 5)) hRN 2 (.complex .f64 0 0)) hRN 3 (.string ⟨#[]⟩)) hRN 4 (.slice none 0 0)
    simpa using this
  · exact grown_setN (grown_setN (grown_setN (grown_setN (grown_setN hgr (Nat.le_refl _) _ _) (Nat.le_refl _) _ _) (Nat.le_refl _) _ _) (Nat.le_refl _) _ _) (Nat.le_refl _) _ _

theorem Tx_head (k : Nat) (tail : List UInt8) : ∃ c t, Tx k tail = c :: t ∧ (c = 53 ∨ c = 91) := by
  cases k with
  | zero => exact ⟨53, tail, rfl, Or.inl rfl⟩
  | succ k => exact ⟨91, Tx k (93 :: tail), rfl, Or.inr rfl⟩

theorem Tx_no93 (k : Nat) (tail : List UInt8) : Lib.hasPrefix (Tx k tail) (⟨#[93]⟩ : ByteArray).data.toList = false := by
  obtain ⟨c, t, e, h | h⟩ := Tx_head k tail
  · rw [e, h]; rfl
  · rw [e, h]; rfl

theorem grown_old {a b : World} {r : Option Nat} (h : a.grownBy b r) {N : Nat} {o : Obj} (hN : a.heap[N]? = some o) (hne : some N ≠ r) : b.heap[N]? = some o := grown_row h hN hne

theorem list_read (k : Nat) (ih : Reads k) (R : Nat) (tail : List UInt8) (m : Int) (w : World) (hr : Rd w R ⟨(Tx k (93 :: tail)).toArray⟩ m) (h1 : (k : Int) + 1 ≤ m) (h2 : m ≤ 1000) :
    Calls Tryd.prog 31 #[.pointer (some ⟨R, 0, none⟩)] w fun e w' => ∃ v, e = .returned (.tuple #[v, .bool true]) ∧ Rep w' (Fresh w w') (ls [nest k]) v ∧ Rd w' R ⟨tail.toArray⟩ (m - (k + 1)) ∧ w.grownBy w' (some R) := by
  have hlt : R < w.heap.size := (Array.getElem?_eq_some_iff.1 hr).1
  have NE1 : Hd (some w.heap.size ≠ some R) := by show some w.heap.size ≠ some R; simp; omega
  have NE2 : Hd (some (w.heap.size + 1) ≠ some R) := by show some (w.heap.size + 1) ≠ some R; simp; omega
  have RR := hide (rd_ext (rd_ext hr (Ext.alloc w (.cells #[.int .i64 0, .int .i64 0, .complex .f64 0 0, .string ⟨#[]⟩, .slice none 0 0] 25))) (Ext.alloc _ (.cells #[.int .i64 4, .int .i64 0, .complex .f64 0 0, .string ⟨#[]⟩, .slice none 0 0] 25)))
  have A1 : Hd (((w.alloc (.cells #[.int .i64 0, .int .i64 0, .complex .f64 0 0, .string ⟨#[]⟩, .slice none 0 0] 25)).alloc (.cells #[.int .i64 4, .int .i64 0, .complex .f64 0 0, .string ⟨#[]⟩, .slice none 0 0] 25)).heap[w.heap.size]? = some (.cells #[.int .i64 0, .int .i64 0, .complex .f64 0 0, .string ⟨#[]⟩, .slice none 0 0] 25 (0, 0))) := (Ext.alloc _ _).row (Go.heap_alloc_new w _)
  have A2 : Hd (((w.alloc (.cells #[.int .i64 0, .int .i64 0, .complex .f64 0 0, .string ⟨#[]⟩, .slice none 0 0] 25)).alloc (.cells #[.int .i64 4, .int .i64 0, .complex .f64 0 0, .string ⟨#[]⟩, .slice none 0 0] 25)).heap[w.heap.size + 1]? = some (.cells #[.int .i64 4, .int .i64 0, .complex .f64 0 0, .string ⟨#[]⟩, .slice none 0 0] 25 (0, 0))) := by
    have := Go.heap_alloc_new (w.alloc (.cells #[.int .i64 0, .int .i64 0, .complex .f64 0 0, .string ⟨#[]⟩, .slice none 0 0] 25)) (.cells #[.int .i64 4, .int .i64 0, .complex .f64 0 0, .string ⟨#[]⟩, .slice none 0 0] 25)
    rw [heap_alloc_size] at this
    exact this
  have N93 := hide (Tx_no93 k (93 :: tail))
  have I := hide ih
  obtain ⟨i0, hi, hz0, hz1, hz2⟩ := info_parts infoV
  have HI := hide hi
  have Z0 := hide hz0
  have Z1 := hide hz1
  have Z2 := hide hz2
  have hlen2 : ((w.alloc (.cells #[.int .i64 0, .int .i64 0, .complex .f64 0 0, .string ⟨#[]⟩, .slice none 0 0] 25)).alloc (.cells #[.int .i64 4, .int .i64 0, .complex .f64 0 0, .string ⟨#[]⟩, .slice none 0 0] 25)).heap.size = w.heap.size + 2 := by simp
  have L2 := hide hlen2
  clear hr ih hi hz0 hz1 hz2 hlen2
  obtain ⟨q, hq⟩ : ∃ q, q = nest k := ⟨_, rfl⟩
  have Q := hide hq
  clear hq
  cases q with
  | mk k' n' re' im' s' l' =>
  go_enter Tryd.func31, Tryd.ntmps31
  go_wp2_with (go_at_call 29; refine Calls.mono (skip_no R _ _ _ _ (unhide RR) (unhide N93)) ?_; rintro e w1 ⟨rfl, hr1, hg1⟩; have R1 := hide hr1; have G1 := hide hg1; clear hr1 hg1)
  go_loopw [11] (fun i wr => wr = w1) (fun _ _ => 0)
  case atStart => rfl
  case round =>
    subst hrel
    go_wp2_with (first
      | (go_at_call 22; refine Calls.mono (unhide I R (93 :: tail) m _ (unhide R1) (Or.inr ⟨_, rfl⟩) h1 h2) ?_; rintro e w2 ⟨v2, rfl, hr2, hd2, hg2⟩; rw [← unhide Q, Rep] at hr2; obtain ⟨a2, c2, rfl, hb2, hl2⟩ := hr2; have g2 := grown_trans (unhide G1) hg2; have row2 := grown_row g2 (unhide A2) (unhide NE2); have p0 := rowC row2 0 rfl; have p1 := rowC row2 1 rfl; have p2 := rowC row2 2 rfl; have p3 := rowC row2 3 rfl; have p4 := rowC row2 4 rfl; have pf := rowF row2; have hlt2 : w.heap.size + 1 < w2.heap.size := (Array.getElem?_eq_some_iff.1 row2).1; have ROW2 := hide row2; have G2 := hide g2; have G2' := hide hg2; have D2 := hide hd2; have B2 := hide hb2; have L2' := hide hl2; clear hd2 hg2 hb2 hl2 g2 row2)
      | (at_builtin; refine wpList_append_where rfl (.tmp 20) (.tmp 22) 23 rfl (w2.heap.size) 25 i0 nilV 5 72 Tryd.underlying23 (unhide HI) (unhide Z0) (unhide Z1) (unhide Z2) rfl (by decide) none 0 0 [] rfl (World.ownsRow_nil _ _ _ _) ⟨w2.heap.size + 1, 0, none⟩ 1 1 [.int .i64 k', .int .i64 n', .complex .f64 re' im', .string s', .slice a2 l'.length c2] rfl (by decide) rfl ?c1 ?c2 ?c3 ?c4 ?c5 ?_))
    case c1 =>
      have := cells_new (w2.alloc (.cells #[.int .i64 k', .int .i64 n', .complex .f64 re' im', .string s', .slice a2 l'.length c2] 25)) #[.int .i64 k', .int .i64 n', .complex .f64 re' im', .string s', .slice a2 l'.length c2] 25
      rw [heap_alloc_size] at this
      exact this
    case c2 => simp [Value.oneCell']
    case c3 => unfold maxLen; omega
    case c4 => omega
    case c5 => simp; omega
    intro g' cap' w3 ho3 hg3 hw3
    have hx3 : Ext w2 w3 := ((Ext.alloc _ _).trans (Ext.alloc _ _)).trans ⟨hg3.os, hg3.tape, hg3.output, hg3.size, fun b hb => hg3.block b hb (by simp [Value.ownBlock])⟩
    have hg' : w2.heap.size + 2 ≤ g' := by
      rcases hw3 with e | e
      · cases e
      · simpa using e
    have row3 := hx3.row (unhide ROW2)
    have r0 := rowC row3 0 rfl
    have r1 := rowC row3 1 rfl
    have r2 := rowC row3 2 rfl
    have r3 := rowC row3 3 rfl
    have r4 := rowC row3 4 rfl
    have rf := rowF row3
    have row4 := row_set row3 4 (.slice (some ⟨g', 0, none⟩) 1 cap')
    have hRN1 : R ≠ w.heap.size + 1 := by omega
    have hRN : R ≠ w.heap.size := by omega
    have rd4 := rd_set (rd_ext (unhide D2) hx3) hRN1 4 (.slice (some ⟨g', 0, none⟩) 1 cap')
    have rowN3 := hx3.row (grown_row (unhide G2) (unhide A1) (unhide NE1))
    have rowN4 : (w3.setCell ⟨w.heap.size + 1, 4, none⟩ (.slice (some ⟨g', 0, none⟩) 1 cap')).heap[w.heap.size]? = _ := (Below.heap_setCell _ _ _ _ (by show w.heap.size ≠ w.heap.size + 1; omega)).trans rowN3
    have ROW4 := hide row4
    have RD4 := hide rd4
    have ROWN := hide rowN4
    have X3 := hide hx3
    have O3 := hide ho3
    have G3 := hide hg'
    have hsk := fun w hr => skip_yes R (93 :: tail) tail ⟨#[93]⟩ (m - (k + 1)) w hr rfl rfl
    have SK := hide hsk
    clear row3 row4 rd4 rowN3 rowN4 hx3 ho3 hg3 hw3 hg' hsk p0 p1 p2 p3 p4 pf
    go_wp2_with (go_at_call 29; refine Calls.mono (unhide SK _ (unhide RD4)) ?_; rintro e w5 ⟨rfl, hr5, hg5⟩; have row5 := grown_row hg5 (unhide ROW4) (unhide NE2); have p0 := rowC row5 0 rfl; have p1 := rowC row5 1 rfl; have p2 := rowC row5 2 rfl; have p3 := rowC row5 3 rfl; have p4 := rowC row5 4 rfl; have rowN5 := grown_row hg5 (unhide ROWN) (unhide NE1); have q0 := rowC rowN5 0 rfl; have q1 := rowC rowN5 1 rfl; have q2 := rowC rowN5 2 rfl; have q3 := rowC rowN5 3 rfl; have q4 := rowC rowN5 4 rfl; have qf := rowF rowN5; have R5 := hide hr5; have G5 := hide hg5; clear row5 rowN5 hr5 hg5)
    have hx3 := unhide X3
    have ho3 := unhide O3
    have hg' := unhide G3
    have hg5 := unhide G5
    have hsz4 : (w3.setCell ⟨w.heap.size + 1, 4, none⟩ (.slice (some ⟨g', 0, none⟩) 1 cap')).heap.size = w3.heap.size := by simp [World.setCell]
    have hgr0 := grown_trans (grown_trans (ext_grown ((Ext.alloc w _).trans (Ext.alloc _ _))) (unhide G2)) (ext_grown hx3)
    have hgr := grown_trans (grown_setN hgr0 (Nat.le_succ _) 4 (.slice (some ⟨g', 0, none⟩) 1 cap')) hg5
    have hw1 : w.heap.size + 2 ≤ wr.heap.size := by have := (unhide G1).size; rw [unhide L2] at this; exact this
    have hcap : 1 ≤ cap' := by
      rcases ho3.2 with ⟨e, _⟩ | ⟨g, c, cur, e, _, _, hle, _⟩
      · cases e
      · injection e with _ _ e3
        omega
    have hgl : g' < w3.heap.size := (ho3.lt g' rfl).2
    refine bodyPost_ret (v := .tuple #[.agg #[.int .i64 4, .int .i64 0, .complex .f64 0 0, .string ⟨#[]⟩, .slice (some ⟨g', 0, none⟩) 1 cap'], .bool true]) (by simp [results, Tryd.results31, go_sem, q0, q1, q2, q3, q4]) rfl ⟨_, rfl, ?_, ?_, ?_⟩
    · rw [ls, Rep]
      refine ⟨some ⟨g', 0, none⟩, cap', rfl, ⟨by decide, by decide, by decide, by decide, by decide, by decide, by decide, by simp, by simpa using hcap⟩, ?_⟩
      have hrow : Row5 w3 (fun b => w.heap.size + 2 ≤ b ∧ b < w3.heap.size) [nest k] [.int .i64 k', .int .i64 n', .complex .f64 re' im', .string s', .slice a2 l'.length c2] := by
        rw [← unhide Q]
        exact ⟨a2, c2, [], rfl, unhide B2, RepL.to (fun b hb => ⟨⟨Nat.le_trans hw1 hb.1, Nat.lt_of_lt_of_le hb.2 hx3.le⟩, hx3.block b hb.2⟩) _ _ (unhide L2'), rfl⟩
      have hL3 := Row5.repL (g := g') ⟨by omega, hgl⟩ hrow (cells_own ho3)
      refine RepL.to (fun b hb => ⟨⟨?fa, ?fb⟩, ?fc⟩) _ _ hL3
      case fa => have := hb.1; omega
      case fb =>
        simp only [World.setCell, Array.size_modify]
        have h5 := hg5.size
        rw [hsz4] at h5
        exact Nat.lt_of_lt_of_le hb.2 h5
      case fc =>
        have hne : b ≠ w.heap.size := by have := hb.1; omega
        rw [Below.heap_setCell _ _ _ _ hne, Below.heap_setCell _ _ _ _ hne, Below.heap_setCell _ _ _ _ hne, Below.heap_setCell _ _ _ _ hne, Below.heap_setCell _ _ _ _ hne]
        rw [hg5.block b (by rw [hsz4]; exact hb.2) (by have := hb.1; simp; omega)]
        exact Below.heap_setCell _ _ _ _ (by show b ≠ w.heap.size + 1; have := hb.1; omega)
    · exact rd_set (rd_set (rd_set (rd_set (rd_set (unhide R5) hRN _ _) hRN _ _) hRN _ _) hRN _ _) hRN _ _
    · exact grown_setN (grown_setN (grown_setN (grown_setN (grown_setN hgr (Nat.le_refl _) _ _) (Nat.le_refl _) _ _) (Nat.le_refl _) _ _) (Nat.le_refl _) _ _) (Nat.le_refl _) _ _

theorem reads_succ (k : Nat) (ih : Reads k) : Reads (k + 1) := by
  intro R tail m w hr hst h1 h2
  have hr0 : Rd w R ⟨(91 :: Tx k (93 :: tail)).toArray⟩ m := hr
  have hlt : R < w.heap.size := (Array.getElem?_eq_some_iff.1 hr0).1
  have hm1 : 1 ≤ m := by omega
  have hm2 : (k : Int) + 1 ≤ m - 1 := by omega
  have hm3 : m - 1 ≤ 1000 := by omega
  have NE : Hd (some w.heap.size ≠ some R) := by show some w.heap.size ≠ some R; simp; omega
  have RR := hide (rd_ext hr0 (Ext.alloc w (.cells #[.int .i64 0, .int .i64 0, .complex .f64 0 0, .string ⟨#[]⟩, .slice none 0 0] 25)))
  have GG := hide (World.grownBy.refl (w.alloc (.cells #[.int .i64 0, .int .i64 0, .complex .f64 0 0, .string ⟨#[]⟩, .slice none 0 0] 25)) (some R))
  have LR := hide (fun w hr => list_read k ih R tail (m - 1) w hr hm2 hm3)
  have hq : ∃ q, q = ls [nest k] := ⟨_, rfl⟩
  obtain ⟨q, hq⟩ := hq
  rw [← hq] at LR
  have hn : nest (k + 1) = q := by rw [hq]; rfl
  rw [hn]
  clear hr hr0 hst ih hq hn
  cases q with
  | mk k' n' re' im' s' l' =>
  go_enter Tryd.func22, Tryd.ntmps22
  go_wp2_with (first
    | (go_at_call 28; refine Calls.mono (spend_any R _ m _ (unhide RR) hm1 h2) ?_; rintro e w1 ⟨rfl, hr1, hg1⟩; have RR1 := hide hr1; have GG1 := hide (grown_trans (unhide GG) hg1); clear RR GG hr1 hg1; have RR := RR1; have GG := GG1; clear RR1 GG1)
    | (go_at_call 29; refine Calls.mono (skip_no R (91 :: Tx k (93 :: tail)) _ _ _ (unhide RR) (by rfl)) ?_; rintro e w2 ⟨rfl, hr2, hg2⟩; have RR2 := hide hr2; have GG2 := hide (grown_trans (unhide GG) hg2); clear RR GG hr2 hg2; have RR := RR2; have GG := GG2; clear RR2 GG2)
    | (go_at_call 29; refine Calls.mono (skip_yes R (91 :: Tx k (93 :: tail)) (Tx k (93 :: tail)) _ _ _ (unhide RR) (by rfl) (by rfl)) ?_; rintro e w3 ⟨rfl, hr3, hg3⟩; have RR3 := hide hr3; have GG3 := hide (grown_trans (unhide GG) hg3); clear RR GG hr3 hg3; have RR := RR3; have GG := GG3; clear RR3 GG3)
    | (go_at_call 31; refine Calls.mono (unhide LR _ (unhide RR)) ?_; rintro e w4 ⟨v4, rfl, hp4, hr4, hg4⟩; rw [Rep] at hp4; obtain ⟨a4, c4, rfl, hb4, hl4⟩ := hp4; have RR4 := hide hr4; have gg4 := grown_trans (unhide GG) hg4; have row4 := grown_row gg4 (Go.heap_alloc_new w _) (unhide NE); have q0 := rowC row4 0 rfl; have q1 := rowC row4 1 rfl; have q2 := rowC row4 2 rfl; have q3 := rowC row4 3 rfl; have q4 := rowC row4 4 rfl; have qf := rowF row4; have GG4 := hide gg4; have hsz : w.heap.size + 1 ≤ w3.heap.size := by
          have := (unhide GG).size
          simp at this
          omega
       have SZ := hide hsz; have B4 := hide hb4; have L4 := hide hl4; clear hr4 hg4 gg4 row4 hb4 hl4 hsz))
  have hgr := grown_trans (ext_grown (Ext.alloc w _)) (unhide GG4)
  have hRN : R ≠ w.heap.size := by omega
  refine bodyPost_ret (v := .tuple #[.agg #[.int .i64 k', .int .i64 n', .complex .f64 re' im', .string s', .slice a4 l'.length c4], .bool true]) (by simp [results, Tryd.results22, go_sem, q0, q1, q2, q3, q4]) rfl ⟨_, rfl, ?_, ?_, ?_⟩
  · rw [Rep]
    refine ⟨a4, c4, rfl, unhide B4, RepL.to (fun b hb => ⟨⟨?fa, ?fb⟩, ?fc⟩) _ _ (unhide L4)⟩
    case fa => have := hb.1; have h5 := unhide SZ; omega
    case fb =>
      simp only [World.setCell, Array.size_modify]
      exact hb.2
    case fc =>
      have hne : b ≠ w.heap.size := by have := hb.1; have h5 := unhide SZ; omega
      rw [Below.heap_setCell _ _ _ _ hne, Below.heap_setCell _ _ _ _ hne, Below.heap_setCell _ _ _ _ hne, Below.heap_setCell _ _ _ _ hne, Below.heap_setCell _ _ _ _ hne]
  · have h5 : m - 1 - ((k : Int) + 1) = m - (((k + 1 : Nat) : Int) + 1) := by omega
    have := rd_set (rd_set (rd_set (rd_set (rd_set (unhide RR4) hRN 0 (.int .i64 k')) hRN 1 (.int .i64 n')) hRN 2 (.complex .f64 re' im')) hRN 3 (.string s')) hRN 4 (.slice a4 l'.length c4)
    rw [h5] at this
    exact this
  · exact grown_setN (grown_setN (grown_setN (grown_setN (grown_setN hgr (Nat.le_refl _) _ _) (Nat.le_refl _) _ _) (Nat.le_refl _) _ _) (Nat.le_refl _) _ _) (Nat.le_refl _) _ _

theorem reads_any : ∀ k, Reads k
  | 0 => reads_zero
  | k + 1 => reads_succ k (reads_any k)

end Go.Proofs.YtmcmfgihdhfcdaaDoor
