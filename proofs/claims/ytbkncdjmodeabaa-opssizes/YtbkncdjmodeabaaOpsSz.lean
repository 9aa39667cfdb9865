/- What the law OpsSizes calls: sums of texts and of lists of nils, and how long they are. -/
import Derived.Test.YtbkncdjmodeabaaOpsInts
set_option linter.unusedSimpArgs false
set_option linter.unusedVariables false
set_option maxRecDepth 10000
namespace Go.Proofs.Ytbkncdjmodeabaa
open Go.RowKit

abbrev tV (s : ByteArray) : Value := .agg #[.int .i64 3, .int .i64 0, .complex .f64 0 0, .string s, .slice none 0 0]
abbrev lV (a : Option Addr) (n c : Nat) : Value := .agg #[.int .i64 4, .int .i64 0, .complex .f64 0 0, .string ⟨#[]⟩, .slice a n c]
abbrev nils (n : Nat) : List PV := List.replicate n nilP

theorem bin_tt (s s' : ByteArray) (w : World) (h : s.size + s'.size ≤ 999) : Ans 6 #[.int .i64 1, tV s, tV s'] w (tx (s ++ s')) 0 := by
  refine binary_any 1 18 (by decide) (by decide) (fun W => by kernel_rfl) (fun v u W => by kernel_rfl) (tx s) (tx s') _ _ w (rep_tx _ _ (by omega)) (rep_tx _ _ (by omega)) _ _ fun W hW => ?_
  rw [okv_tx, okv_tx, decide_eq_true (show s.size ≤ 999 by omega), decide_eq_true (show s'.size ≤ 999 by omega), if_pos rfl, if_pos rfl]
  exact add_texts 0 0 0 0 0 0 s s' none none 0 0 0 0 W h

theorem bin_tt_big (s s' : ByteArray) (w : World) (h1 : s.size ≤ 999) (h2 : s'.size ≤ 999) (h : ¬ s.size + s'.size ≤ 999) : Ans 6 #[.int .i64 1, tV s, tV s'] w nilP 4 := by
  refine binary_any 1 18 (by decide) (by decide) (fun W => by kernel_rfl) (fun v u W => by kernel_rfl) (tx s) (tx s') _ _ w (rep_tx _ _ (by omega)) (rep_tx _ _ (by omega)) _ _ fun W hW => ?_
  rw [okv_tx, okv_tx, decide_eq_true h1, decide_eq_true h2, if_pos rfl, if_pos rfl]
  exact add_texts_big 0 0 0 0 0 0 s s' none none 0 0 0 0 W (by omega) (by omega) h

theorem bin_tt_kind (s s' : ByteArray) (w : World) (h1 : s.size ≤ 1100) (h2 : s'.size ≤ 1100) (h : 999 < s.size ∨ 999 < s'.size) : Ans 6 #[.int .i64 1, tV s, tV s'] w nilP 1 := by
  refine binary_any 1 18 (by decide) (by decide) (fun W => by kernel_rfl) (fun v u W => by kernel_rfl) (tx s) (tx s') _ _ w (rep_tx _ _ (by omega)) (rep_tx _ _ (by omega)) _ _ fun W hW => ?_
  rw [okv_tx, okv_tx]
  by_cases g1 : s.size ≤ 999
  · rw [decide_eq_true g1, decide_eq_false (show ¬ s'.size ≤ 999 by omega), if_pos rfl, if_neg (by decide)]
    exact add_kind 3 0 0 0 0 0 0 0 s ⟨#[]⟩ none none 0 0 0 0 W (by decide)
  · rw [decide_eq_false g1, if_neg (by decide)]
    by_cases g2 : s'.size ≤ 999
    · rw [decide_eq_true g2, if_pos rfl]
      exact add_kind 0 3 0 0 0 0 0 0 ⟨#[]⟩ s' none none 0 0 0 0 W (by decide)
    · rw [decide_eq_false g2, if_neg (by decide)]
      exact add_kind 0 0 0 0 0 0 0 0 ⟨#[]⟩ ⟨#[]⟩ none none 0 0 0 0 W (by decide)

theorem nils_len (n : Nat) : (nils n).length = n := List.length_replicate
theorem nils_app (n m : Nat) : nils n ++ nils m = nils (n + m) := List.replicate_append_replicate

theorem bin_ll (n m : Nat) (a a' : Option Addr) (c c' : Nat) (w : World) (r1 : RepL w (In w) (nils n) a) (r2 : RepL w (In w) (nils m) a') (hc : n ≤ c) (hc' : m ≤ c') (h : n + m ≤ 999) : Ans 6 #[.int .i64 1, lV a n c, lV a' m c'] w (ls (nils (n + m))) 0 := by
  refine binary_any 1 18 (by decide) (by decide) (fun W => by kernel_rfl) (fun v u W => by kernel_rfl) (ls (nils n)) (ls (nils m)) _ _ w (rep_ls (nils_len n).symm r1 (by rw [nils_len]; omega) hc) (rep_ls (nils_len m).symm r2 (by rw [nils_len]; omega) hc') _ _ fun W hW => ?_
  rw [(Ones.nils n).ok, (Ones.nils m).ok, nils_len, nils_len, decide_eq_true (show n ≤ 999 by omega), decide_eq_true (show m ≤ 999 by omega), if_pos rfl, if_pos rfl]
  have hq : listP (nils n ++ nils m) = ls (nils (n + m)) := by
    rw [nils_app, (Ones.nils (n + m)).listP, nils_len, if_pos h]
  have := add_lists (nils n) (nils m) 0 0 0 0 0 0 ⟨#[]⟩ ⟨#[]⟩ a a' c c' W (r1.ext hW) (r2.ext hW) (by rw [nils_len, nils_len]; omega) _ hq
  rw [nils_len, nils_len] at this
  exact this

theorem bin_ll_big (n m : Nat) (a a' : Option Addr) (c c' : Nat) (w : World) (r1 : RepL w (In w) (nils n) a) (r2 : RepL w (In w) (nils m) a') (hc : n ≤ c) (hc' : m ≤ c') (h1 : n ≤ 999) (h2 : m ≤ 999) (h : ¬ n + m ≤ 999) : Ans 6 #[.int .i64 1, lV a n c, lV a' m c'] w nilP 4 := by
  refine binary_any 1 18 (by decide) (by decide) (fun W => by kernel_rfl) (fun v u W => by kernel_rfl) (ls (nils n)) (ls (nils m)) _ _ w (rep_ls (nils_len n).symm r1 (by rw [nils_len]; omega) hc) (rep_ls (nils_len m).symm r2 (by rw [nils_len]; omega) hc') _ _ fun W hW => ?_
  rw [(Ones.nils n).ok, (Ones.nils m).ok, nils_len, nils_len, decide_eq_true h1, decide_eq_true h2, if_pos rfl, if_pos rfl]
  have hq : listP (nils n ++ nils m) = nilP := by
    rw [nils_app, (Ones.nils (n + m)).listP, nils_len, if_neg h]
  have := add_lists_big (nils n) (nils m) 0 0 0 0 0 0 ⟨#[]⟩ ⟨#[]⟩ a a' c c' W (r1.ext hW) (r2.ext hW) (by rw [nils_len, nils_len]; omega) hq
  rw [nils_len, nils_len] at this
  exact this

theorem bin_ll_kind (n m : Nat) (a a' : Option Addr) (c c' : Nat) (w : World) (r1 : RepL w (In w) (nils n) a) (r2 : RepL w (In w) (nils m) a') (hc : n ≤ c) (hc' : m ≤ c') (h1 : n ≤ 1100) (h2 : m ≤ 1100) (h : 999 < n ∨ 999 < m) : Ans 6 #[.int .i64 1, lV a n c, lV a' m c'] w nilP 1 := by
  refine binary_any 1 18 (by decide) (by decide) (fun W => by kernel_rfl) (fun v u W => by kernel_rfl) (ls (nils n)) (ls (nils m)) _ _ w (rep_ls (nils_len n).symm r1 (by rw [nils_len]; omega) hc) (rep_ls (nils_len m).symm r2 (by rw [nils_len]; omega) hc') _ _ fun W hW => ?_
  rw [(Ones.nils n).ok, (Ones.nils m).ok, nils_len, nils_len]
  by_cases g1 : n ≤ 999
  · rw [decide_eq_true g1, decide_eq_false (show ¬ m ≤ 999 by omega), if_pos rfl, if_neg (by decide)]
    exact add_kind 4 0 0 0 0 0 0 0 ⟨#[]⟩ ⟨#[]⟩ a none n c 0 0 W (by decide)
  · rw [decide_eq_false g1, if_neg (by decide)]
    by_cases g2 : m ≤ 999
    · rw [decide_eq_true g2, if_pos rfl]
      exact add_kind 0 4 0 0 0 0 0 0 ⟨#[]⟩ ⟨#[]⟩ none a' 0 0 m c' W (by decide)
    · rw [decide_eq_false g2, if_neg (by decide)]
      exact add_kind 0 0 0 0 0 0 0 0 ⟨#[]⟩ ⟨#[]⟩ none none 0 0 0 0 W (by decide)

theorem un_lenT (s : ByteArray) (w : World) (hs : s.size ≤ 999) (a : Option Addr) (c : Nat) :
    Ans 9 #[.int .i64 17, .agg #[.int .i64 3, .int .i64 0, .complex .f64 0 0, .string s, .slice a 0 c]] w (it s.size) 0 := by
  refine unary_any 17 35 (by decide) (by decide) (fun W => by kernel_rfl) (fun v W => by kernel_rfl) (tx s) _ w (rep_tx _ _ (by omega)) _ _ fun W hW => ?_
  rw [okv_tx, decide_eq_true hs, if_pos rfl]
  exact howMany_text 0 0 0 s a 0 c W (by omega)

end Go.Proofs.Ytbkncdjmodeabaa
