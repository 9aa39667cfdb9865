/- Read at the texts of lists within lists: the value whose text it is, or none. -/
import Derived.Test.YtmcmfgihdhfcdaaDoorReadInB
set_option linter.unusedSimpArgs false
set_option maxRecDepth 10000
namespace Go.Proofs.YtmcmfgihdhfcdaaDoor
open Go.RowKit

theorem sz_nest : ∀ (k d : Nat), d + k ≤ 24 → sz (nest k) d = k + 1
  | 0, d, _ => sz_it 5 d
  | k + 1, d, h => by
    rw [nest, sz_ls _ _ (by omega), szL, szL, sz_nest k (d + 1) (by omega), if_neg (by omega)]
    omega
theorem sz_deep : ∀ (k d : Nat), d ≤ 24 → 24 < d + k → sz (nest k) d = 1001
  | 0, d, h1, h2 => by omega
  | k + 1, d, h1, h2 => by
    by_cases hd : d = 24
    · rw [nest, ls, sz, if_neg (by decide), if_pos rfl, if_pos hd]
    · rw [nest, sz_ls _ _ hd, szL, sz_deep k (d + 1) (by omega) (by omega), if_pos (by omega)]
theorem wfv_nest : ∀ k, wfv (nest k) = true
  | 0 => wfv_it 5
  | k + 1 => by rw [nest, wfv_ls, wfvL, wfvL, wfv_nest k]; rfl
theorem okv_nest (k : Nat) : okv (nest k) = decide (k ≤ 24) := by
  rw [okv, wfv_nest, Bool.and_true, decide_eq_decide]
  by_cases h : k ≤ 24
  · rw [sz_nest k 0 (by omega)]; omega
  · rw [sz_deep k 0 (by omega) (by omega)]; omega
theorem tk_nest (k : Nat) (h : k ≤ 24) : tk (nest k) = nest k := by rw [tk, okv_nest]; simp [h]
theorem tk_deep (k : Nat) (h : ¬ k ≤ 24) : tk (nest k) = nilP := by rw [tk, okv_nest]; simp [h]
theorem Tx_sh : ∀ (k : Nat) (tail : List UInt8), Tx k tail = sh (nest k) ++ tail
  | 0, tail => by rw [nest, sh_it, show Lib.itoa 5 = [53] from itoa_digit 5 (by decide)]; rfl
  | k + 1, tail => by
    rw [Tx, Tx_sh k (93 :: tail), nest, sh_ls, shL, shL]
    simp
theorem Tx_len : ∀ (k : Nat) (tail : List UInt8), (Tx k tail).length = 2 * k + 1 + tail.length
  | 0, tail => by simp [Tx]; omega
  | k + 1, tail => by rw [Tx, List.length_cons, Tx_len k]; simp; omega
theorem sh_len (k : Nat) : (sh (nest k)).length = 2 * k + 1 := by
  have := Tx_len k []
  rw [Tx_sh, List.append_nil] at this
  simpa using this
theorem Tx_rep : ∀ (k : Nat) (tail : List UInt8), Tx k tail = List.replicate k 91 ++ 53 :: (List.replicate k 93 ++ tail)
  | 0, tail => by simp [Tx]
  | k + 1, tail => by
    rw [Tx, Tx_rep k, List.replicate_succ]
    simp only [List.cons_append, List.cons.injEq, true_and]
    rw [List.replicate_succ' (n := k) (a := (93 : UInt8))]
    simp

theorem show_nest (k : Nat) (h : k ≤ 24) (v : Value) (w : World) (hr : Rep w (In w) (nest k) v) (ht : Tab w.heap.size w) :
    Calls Tryd.prog 15 #[v] w fun e w' => e = .returned (.string ⟨(Tx k []).toArray⟩) ∧ Ext w w' := by
  have hh := show_any (nest k) v w hr ht (by rw [tk_nest k h, sh_len]; omega)
  rw [tk_nest k h] at hh
  rw [Tx_sh, List.append_nil]
  exact hh
theorem show_deep (k : Nat) (h : ¬ k ≤ 24) (v : Value) (w : World) (hr : Rep w (In w) (nest k) v) (ht : Tab w.heap.size w) :
    Calls Tryd.prog 15 #[v] w fun e w' => e = .returned (.string ⟨#[110, 105, 108]⟩) ∧ Ext w w' := by
  have hs : sh nilP = [110, 105, 108] := by rw [nilP, sh, if_neg (by decide), if_neg (by decide), if_neg (by decide), if_neg (by decide)]
  have hh := show_any (nest k) v w hr ht (by rw [tk_deep k h, hs]; decide)
  rw [tk_deep k h, hs] at hh
  exact hh

theorem ext_of_grown {a b : World} {R : Nat} (w : World) (h0 : Ext w a) (h : a.grownBy b (some R)) (hR : w.heap.size ≤ R) : Ext w b := Below.grown h0 h h0.le (fun k e => by cases e; exact hR)

theorem read_good (n : Nat) (hn : n ≤ 24) (w : World) (ht : Tab w.heap.size w) :
    Calls Tryd.prog 14 #[.string ⟨(Tx n []).toArray⟩] w fun e w' => ∃ v, e = .returned (.tuple #[v, .bool true]) ∧ Rep w' (In w') (nest n) v ∧ Ext w w' := by
  obtain ⟨s, hs⟩ : ∃ s : ByteArray, s = ⟨(Tx n []).toArray⟩ := ⟨_, rfl⟩
  obtain ⟨q, hq⟩ : ∃ q, q = nest n := ⟨_, rfl⟩
  have RE := hide (fun R w hr => reads_any n R [] 1000 w hr (Or.inl rfl) (by omega) (by omega))
  have SH := hide (fun v w hr ht => show_nest n hn v w hr ht)
  rw [← hq] at RE SH ⊢
  rw [← hs] at RE SH ⊢
  have hrd : Rd ((w.alloc (.cells #[.int .i64 0, .int .i64 0, .complex .f64 0 0, .string ⟨#[]⟩, .slice none 0 0] 25)).alloc (.cells #[.string s, .int .i64 1000] 43)) (w.heap.size + 1) s 1000 := by
    have := Go.heap_alloc_new (w.alloc (.cells #[.int .i64 0, .int .i64 0, .complex .f64 0 0, .string ⟨#[]⟩, .slice none 0 0] 25)) (.cells #[.string s, .int .i64 1000] 43)
    rw [heap_alloc_size] at this
    exact this
  have RD := hide hrd
  have rN : Hd (((w.alloc (.cells #[.int .i64 0, .int .i64 0, .complex .f64 0 0, .string ⟨#[]⟩, .slice none 0 0] 25)).alloc (.cells #[.string s, .int .i64 1000] 43)).heap[w.heap.size]? = some (.cells #[.int .i64 0, .int .i64 0, .complex .f64 0 0, .string ⟨#[]⟩, .slice none 0 0] 25 (0, 0))) := (Ext.alloc _ _).row (Go.heap_alloc_new w _)
  have T := hide ht
  clear hs hq ht hrd
  cases q with
  | mk k' n' re' im' s' l' =>
  go_enter Tryd.func14, Tryd.ntmps14
  go_wp2_with (first
    | (go_at_call 22; refine Calls.mono (unhide RE _ _ (unhide RD)) ?_; rintro e w2 ⟨v2, rfl, hp2, -, hg2⟩; have hp3 := Fresh.in hp2; have hp4 := hp3; rw [Rep] at hp4; obtain ⟨a2, c2, rfl, -, -⟩ := hp4; have X2 := hide (ext_of_grown w ((Ext.alloc _ _).trans (Ext.alloc _ _)) hg2 (by omega)); have ROW2 := hide (grown_row hg2 (unhide rN) (by simp)); have P2 := hide hp3; have F2 := hide hp2; clear hp2 hp3 hg2)
    | (go_at_call 15; refine Calls.mono (unhide SH _ _ ((unhide P2).ext (Ext.alloc _ _)) (tab_up (unhide T) ((unhide X2).trans (Ext.alloc _ _)))) ?_; rintro e w5 ⟨rfl, hw5⟩; have p0 := hw5.box 0 rfl; have p1 := hw5.box 1 rfl; have p2 := hw5.box 2 rfl; have p3 := hw5.box 3 rfl; have p4 := hw5.box 4 rfl; have row5 := ((Ext.alloc _ _).trans hw5).row (unhide ROW2); have q0 := rowC row5 0 rfl; have q1 := rowC row5 1 rfl; have q2 := rowC row5 2 rfl; have q3 := rowC row5 3 rfl; have q4 := rowC row5 4 rfl; have qf := rowF row5; have W5 := hide ((Ext.alloc _ _).trans hw5); clear row5 hw5))
  have hE := (unhide X2).trans (unhide W5)
  have hE5 := ((((hE.set (a := ⟨w.heap.size, 0, none⟩) (by simp) (.int .i64 k')).set (a := ⟨w.heap.size, 1, none⟩) (by simp) (.int .i64 n')).set (a := ⟨w.heap.size, 2, none⟩) (by simp) (.complex .f64 re' im')).set (a := ⟨w.heap.size, 3, none⟩) (by simp) (.string s')).set (a := ⟨w.heap.size, 4, none⟩) (by simp) (.slice a2 l'.length c2)
  have hF : Rep w2 (fun b => w.heap.size + 2 ≤ b ∧ b < w2.heap.size) (PV.mk k' n' re' im' s' l') (.agg #[.int .i64 k', .int .i64 n', .complex .f64 re' im', .string s', .slice a2 l'.length c2]) := Rep.to (fun b hb => ⟨⟨by have := hb.1; simp at this; omega, hb.2⟩, rfl⟩) _ _ (unhide F2)
  refine bodyPost_ret (v := .tuple #[.agg #[.int .i64 k', .int .i64 n', .complex .f64 re' im', .string s', .slice a2 l'.length c2], .bool true]) (by simp [results, Tryd.results14, go_sem, q0, q1, q2, q3, q4]) rfl ⟨_, rfl, Rep.to (fun b hb => ⟨?fa, ?fb⟩) _ _ hF, hE5⟩
  case fa =>
    show b < _
    simp only [World.setCell, Array.size_modify]
    exact Nat.lt_of_lt_of_le hb.2 (unhide W5).le
  case fb =>
    have hne : b ≠ w.heap.size := by have := hb.1; omega
    rw [Below.heap_setCell _ _ _ _ hne, Below.heap_setCell _ _ _ _ hne, Below.heap_setCell _ _ _ _ hne, Below.heap_setCell _ _ _ _ hne, Below.heap_setCell _ _ _ _ hne]
    exact (unhide W5).block b hb.2

theorem read_deep (n : Nat) (hn : ¬ n ≤ 24) (hn2 : n ≤ 40) (w : World) (ht : Tab w.heap.size w) :
    Calls Tryd.prog 14 #[.string ⟨(Tx n []).toArray⟩] w fun e w' => e = .returned (.tuple #[nilV, .bool false]) ∧ Ext w w' := by
  obtain ⟨s, hs⟩ : ∃ s : ByteArray, s = ⟨(Tx n []).toArray⟩ := ⟨_, rfl⟩
  obtain ⟨q, hq⟩ : ∃ q, q = nest n := ⟨_, rfl⟩
  have RE := hide (fun R w hr => reads_any n R [] 1000 w hr (Or.inl rfl) (by omega) (by omega))
  have SH := hide (fun v w hr ht => show_deep n hn v w hr ht)
  have hsl : s.toList = Tx n [] := by rw [ByteArray.toList_eq, hs]
  have hne : (([110, 105, 108] : List UInt8) == s.toList) = false := by
    rw [hsl]
    obtain ⟨c, t, e, h | h⟩ := Tx_head n []
    · rw [e, h]; rfl
    · rw [e, h]; rfl
  rw [← hq] at RE SH
  rw [← hs] at RE ⊢
  have hrd : Rd ((w.alloc (.cells #[.int .i64 0, .int .i64 0, .complex .f64 0 0, .string ⟨#[]⟩, .slice none 0 0] 25)).alloc (.cells #[.string s, .int .i64 1000] 43)) (w.heap.size + 1) s 1000 := by
    have := Go.heap_alloc_new (w.alloc (.cells #[.int .i64 0, .int .i64 0, .complex .f64 0 0, .string ⟨#[]⟩, .slice none 0 0] 25)) (.cells #[.string s, .int .i64 1000] 43)
    rw [heap_alloc_size] at this
    exact this
  have RD := hide hrd
  have rN : Hd (((w.alloc (.cells #[.int .i64 0, .int .i64 0, .complex .f64 0 0, .string ⟨#[]⟩, .slice none 0 0] 25)).alloc (.cells #[.string s, .int .i64 1000] 43)).heap[w.heap.size]? = some (.cells #[.int .i64 0, .int .i64 0, .complex .f64 0 0, .string ⟨#[]⟩, .slice none 0 0] 25 (0, 0))) := (Ext.alloc _ _).row (Go.heap_alloc_new w _)
  have T := hide ht
  clear hs hq ht hrd hsl
  cases q with
  | mk k' n' re' im' s' l' =>
  go_enter Tryd.func14, Tryd.ntmps14
  go_wp2_with (first
    | (go_at_call 22; refine Calls.mono (unhide RE _ _ (unhide RD)) ?_; rintro e w2 ⟨v2, rfl, hp2, -, hg2⟩; have hp3 := Fresh.in hp2; have hp4 := hp3; rw [Rep] at hp4; obtain ⟨a2, c2, rfl, -, -⟩ := hp4; have X2 := hide (ext_of_grown w ((Ext.alloc _ _).trans (Ext.alloc _ _)) hg2 (by omega)); have ROW2 := hide (grown_row hg2 (unhide rN) (by simp)); have P2 := hide hp3; have F2 := hide hp2; clear hp2 hp3 hg2)
    | (go_at_call 15; refine Calls.mono (unhide SH _ _ ((unhide P2).ext (Ext.alloc _ _)) (tab_up (unhide T) ((unhide X2).trans (Ext.alloc _ _)))) ?_; rintro e w5 ⟨rfl, hw5⟩; have p0 := hw5.box 0 rfl; have p1 := hw5.box 1 rfl; have p2 := hw5.box 2 rfl; have p3 := hw5.box 3 rfl; have p4 := hw5.box 4 rfl; have row5 := ((Ext.alloc _ _).trans hw5).row (unhide ROW2); have q0 := rowC row5 0 rfl; have q1 := rowC row5 1 rfl; have q2 := rowC row5 2 rfl; have q3 := rowC row5 3 rfl; have q4 := rowC row5 4 rfl; have qf := rowF row5; have W5 := hide ((Ext.alloc _ _).trans hw5); clear row5 hw5)
    | (go_at_call 21; refine Calls.mono (nil_any _) ?_; rintro e w6 ⟨rfl, hw6⟩; clear q0 q1 q2 q3 q4 qf; have row6 := ((unhide W5).trans hw6).row (unhide ROW2); have q0 := rowC row6 0 rfl; have q1 := rowC row6 1 rfl; have q2 := rowC row6 2 rfl; have q3 := rowC row6 3 rfl; have q4 := rowC row6 4 rfl; have qf := rowF row6; have W6 := hide ((unhide W5).trans hw6); clear row6 hw6))
  have hE := (unhide X2).trans (unhide W6)
  exact bodyPost_ret (v := .tuple #[nilV, .bool false]) (by simp [results, Tryd.results14, go_sem, q0, q1, q2, q3, q4]) rfl ⟨rfl, ((((hE.set (by simp) _).set (by simp) _).set (by simp) _).set (by simp) _).set (by simp) _⟩

end Go.Proofs.YtmcmfgihdhfcdaaDoor
