/- The walk of the law LexTokens: any text is parted into the words that the document says, or refused at the first byte that begins none. -/
import Derived.Test.YtbncceknldjbjaaDoorLexRTok
import Derived.Deep.QuietTactic
import Derived.BigQuiet
set_option linter.unusedSimpArgs false
set_option linter.unusedVariables false
set_option maxRecDepth 10000
namespace Go.Proofs.YtbncceknldjbjaaDoor
open Go.RowKit

theorem row_cells {w : World} {base : Nat} {e : TypeId} {v : Value} {ts : List Tk} (h : w.ownsRow base e 4 v ts.length (ts.flatMap tkC)) (hne : ts ≠ []) :
    ∃ g cap, v = .slice (some ⟨g, 0, none⟩) ts.length cap ∧ ∀ j u, (ts.flatMap tkC)[j]? = some u → w.cell? ⟨g, j, none⟩ = some u := by
  obtain ⟨hlen, ⟨_, h0⟩ | ⟨g, cap, cur, rfl, hg, hrow, _⟩⟩ := id h
  · exact absurd (List.length_eq_zero_iff.1 h0) hne
  · refine ⟨g, cap, rfl, fun j u hj => ?_⟩
    have := h.cells (g := g) rfl j u hj
    rw [add0] at this
    exact this

theorem flat_at : ∀ (ts : List Tk) (k : Nat) (x : Tk), ts[k]? = some x → (ts.flatMap tkC)[k * 4]? = some (.int .i64 x.k) ∧ (ts.flatMap tkC)[k * 4 + 1]? = some (.string x.t) ∧ (ts.flatMap tkC)[k * 4 + 2]? = some (.int .i64 x.n) ∧ (ts.flatMap tkC)[k * 4 + 3]? = some (.int .i64 x.o)
  | [], k, x, h => by simp at h
  | y :: r, 0, x, h => by
    simp only [List.getElem?_cons_zero, Option.some.injEq] at h
    subst h
    exact ⟨rfl, rfl, rfl, rfl⟩
  | y :: r, k + 1, x, h => by
    rw [List.getElem?_cons_succ] at h
    obtain ⟨h0, h1, h2, h3⟩ := flat_at r k x h
    have e : ∀ i, ((y :: r).flatMap tkC)[(k + 1) * 4 + i]? = (r.flatMap tkC)[k * 4 + i]? := by
      intro i
      rw [List.flatMap_cons, List.getElem?_append_right (by show 4 ≤ _; omega)]
      congr 1
      show (k + 1) * 4 + i - 4 = _
      omega
    exact ⟨by rw [show (k + 1) * 4 = (k + 1) * 4 + 0 by omega, e]; exact h0, by rw [e]; exact h1, by rw [e]; exact h2, by rw [e]; exact h3⟩

theorem ext_drewN (w : World) (n : Nat) : Ext w (w.drewN n) := by
  induction n with
  | zero => exact Ext.refl _
  | succ n ih => exact Ext.drew ih

set_option maxHeartbeats 4000000 in
theorem toks_nil (s : ByteArray) (w : World) (he : Er w) (a e : Int) (hx : ∀ W, Ext w W → Calls Tryd.prog 8 #[.string s] W fun r w' => ∃ p c, r = .returned (.tuple #[.slice p 0 c, .int .i64 a, .int .i64 e]) ∧ Ext W w')
    (hy : ∀ W, Ext w W → Calls Tryd.prog 9 #[.string s] W fun r w' => ∃ p c, r = .returned (.agg #[.slice p 0 c, .int .i64 a, .int .i64 e]) ∧ Ext W w') :
    Calls Tryd.prog 3 #[.string s] w fun e w' => e = .returned (.bool true) ∧ Ext w w' := by
  have HA := hide (fun W (x : Ext w W) => awake_any W (he.on x))
  have HX := hide hx
  have HY := hide hy
  clear he hx hy
  go_enter Tryd.func3, Tryd.ntmps3
  go_wp2_with (first
    | (go_at_call 8; refine Calls.mono (unhide HX _ (Ext.refl _)) ?_; rintro r w1 ⟨p1, c1, rfl, hw⟩; have X := hide hw; clear hw)
    | (go_at_call 9; refine Calls.mono (unhide HY _ (unhide X)) ?_; rintro r w2 ⟨p2, c2, rfl, hw⟩; have Y := hide ((unhide X).trans hw); clear hw))
  refine wp_loop_rounds 1 ?_
  rw [rounds_succ]
  go_wp2_with (go_at_call 10; refine Calls.mono (unhide HA _ ((unhide Y).trans (Ext.alloc _ _))) ?_; rintro r w3 ⟨rfl, hw⟩; have Z := hide (((unhide Y).trans (Ext.alloc _ _)).trans hw); clear hw)
  go_ret
  exact ⟨rfl, unhide Z⟩

set_option maxHeartbeats 8000000 in
theorem toks_some (s : ByteArray) (w : World) (he : Er w) (ts : List Tk) (hne : ts ≠ []) (hlen : ts.length ≤ 4001)
    (hx : ∀ W, Ext w W → Calls Tryd.prog 8 #[.string s] W fun r w' => ∃ g cap, r = .returned (.tuple #[.slice (some ⟨g, 0, none⟩) ts.length cap, .int .i64 0, .int .i64 0]) ∧ (∀ j u, (ts.flatMap tkC)[j]? = some u → w'.cell? ⟨g, j, none⟩ = some u) ∧ Ext W w')
    (hy : ∀ W, Ext w W → Calls Tryd.prog 9 #[.string s] W fun r w' => ∃ g cap, r = .returned (.agg #[.slice (some ⟨g, 0, none⟩) ts.length cap, .int .i64 0, .int .i64 0]) ∧ (∀ j u, (ts.flatMap tkC)[j]? = some u → w'.cell? ⟨g, j, none⟩ = some u) ∧ Ext W w') :
    Calls Tryd.prog 3 #[.string s] w fun e w' => e = .returned (.bool true) ∧ Ext w w' := by
  have HA := hide (fun W (x : Ext w W) => awake_any W (he.on x))
  have HX := hide hx
  have HY := hide hy
  obtain ⟨n, hn⟩ : ∃ n, n = ts.length := ⟨_, rfl⟩
  rw [← hn] at HX HY hlen
  have HL := hide hn
  clear he hx hy hn hne
  go_enter Tryd.func3, Tryd.ntmps3
  go_wp2_with (first
    | (go_at_call 8; refine Calls.mono (unhide HX _ (Ext.refl _)) ?_; rintro r w1 ⟨g1, cap1, rfl, hc, hw⟩; have C1 := hide hc; have X := hide hw; clear hw hc)
    | (go_at_call 9; refine Calls.mono (unhide HY _ (unhide X)) ?_; rintro r w2 ⟨g2, cap2, rfl, hc, hw⟩; have C2 := hide hc; have E2 := hide hw; have Y := hide ((unhide X).trans hw); clear hw hc))
  obtain ⟨W, hW⟩ : ∃ W, W = w2.alloc (.cells #[.slice (some ⟨g2, 0, none⟩) n cap2, .int .i64 0, .int .i64 0] 28) := ⟨_, rfl⟩
  rw [← hW]
  have EW : Hd (Ext w2 W) := by rw [hW]; exact Ext.alloc _ _
  have d0 : W.cell? ⟨w2.heap.size, 0, none⟩ = some (.slice (some ⟨g2, 0, none⟩) n cap2) := by rw [hW]; exact cell_box _ _ _ 0 rfl
  have D0 := hide d0
  clear hW d0
  go_loopw [7] (fun i wr => ∃ (k q : Nat), k ≤ n ∧ i = .int .i64 k ∧ wr = W.drewN q) (fun i _ => n - (intOf i).toNat)
  case atStart => exact ⟨0, 0, Nat.zero_le _, rfl, rfl⟩
  case round =>
    obtain ⟨k, q, hk, rfl, rfl⟩ := hrel
    have d0 := unhide D0
    by_cases hlt : k < n
    · obtain ⟨x, hx⟩ : ∃ x, ts[k]? = some x := ⟨_, List.getElem?_eq_getElem (by have := unhide HL; omega)⟩
      obtain ⟨f0, f1, f2, f3⟩ := flat_at ts k x hx
      have p0 := ((unhide E2).trans (unhide EW)).cell (unhide C1 _ _ f0)
      have p1 := ((unhide E2).trans (unhide EW)).cell (unhide C1 _ _ f1)
      have p2 := ((unhide E2).trans (unhide EW)).cell (unhide C1 _ _ f2)
      have p3 := ((unhide E2).trans (unhide EW)).cell (unhide C1 _ _ f3)
      have q0 := (unhide EW).cell (unhide C2 _ _ f0)
      have q1 := (unhide EW).cell (unhide C2 _ _ f1)
      have q2 := (unhide EW).cell (unhide C2 _ _ f2)
      have q3 := (unhide EW).cell (unhide C2 _ _ f3)
      clear f0 f1 f2 f3 hx
      go_wp2_with fail
      go_quiet (fail)
      go_wp2_with fail
      go_roundw
      case rel => exact ⟨k + 1, _, by omega, by go_num, rfl⟩
      case measure => simp [intOf]; omega
    · have hkn : ¬ ((k : Int) < n) := by omega
      go_wp2_with (go_at_call 10; refine Calls.mono (unhide HA _ (((unhide Y).trans (unhide EW)).trans (ext_drewN _ _))) ?_; rintro r w3 ⟨rfl, hw⟩; have Z := hide ((((unhide Y).trans (unhide EW)).trans (ext_drewN _ _)).trans hw); clear hw)
      go_ret
      exact ⟨rfl, unhide Z⟩

theorem own_none {w : World} {base : Nat} {e : TypeId} {size : Nat} {v : Value} {xs : List Value} (h : w.ownsRow base e size v 0 xs) : ∃ p c, v = .slice p 0 c := by
  obtain ⟨_, ⟨h, _⟩ | ⟨g, cap, cur, h, _⟩⟩ := h
  · exact ⟨_, _, h⟩
  · exact ⟨_, _, h⟩

theorem lex_len (s : ByteArray) : ∀ (f k : Nat), (lexF f s k).1.length ≤ f
  | 0, k => Nat.le_refl _
  | f + 1, k => by
    rw [lexF]
    split
    · exact Nat.zero_le _
    · split
      · exact Nat.zero_le _
      · rename_i m _
        have := lex_len s f m
        simp only [List.length_cons]
        omega

theorem rtokens_is (s : ByteArray) (ts : List Tk) (w : World) (hs : s.size ≤ 4000) (hl : lexF (s.size + 1) s 0 = (ts, none)) (hne : ts ≠ []) :
    Calls Tryd.prog 9 #[.string s] w fun e w' => ∃ g cap, e = .returned (.agg #[.slice (some ⟨g, 0, none⟩) ts.length cap, .int .i64 0, .int .i64 0]) ∧ (∀ j u, (ts.flatMap tkC)[j]? = some u → w'.cell? ⟨g, j, none⟩ = some u) ∧ Ext w w' := by
  refine (rtokens_any s w (by omega)).mono ?_
  intro e w' h
  rcases h with ⟨h, -⟩ | ⟨-, b, hb, -⟩ | ⟨-, -, v, base, rfl, hbase, hown, hx⟩
  · omega
  · rw [hl] at hb; cases hb
  · rw [hl] at hown
    obtain ⟨g, cap, rfl, hc⟩ := row_cells hown hne
    exact ⟨g, cap, rfl, hc, hx⟩

theorem rtokens_none (s : ByteArray) (w : World) (hs : s.size ≤ 4000) (hl : lexF (s.size + 1) s 0 = ([], none)) :
    Calls Tryd.prog 9 #[.string s] w fun e w' => ∃ p c, e = .returned (.agg #[.slice p 0 c, .int .i64 0, .int .i64 0]) ∧ Ext w w' := by
  refine (rtokens_any s w (by omega)).mono ?_
  intro e w' h
  rcases h with ⟨h, -⟩ | ⟨-, b, hb, -⟩ | ⟨-, -, v, base, rfl, hbase, hown, hx⟩
  · omega
  · rw [hl] at hb; cases hb
  · rw [hl] at hown
    obtain ⟨p, c, rfl⟩ := own_none hown
    exact ⟨p, c, rfl, hx⟩

theorem rtokens_bad (s : ByteArray) (ts : List Tk) (b : Nat) (w : World) (hs : s.size ≤ 4000) (hl : lexF (s.size + 1) s 0 = (ts, some b)) :
    Calls Tryd.prog 9 #[.string s] w fun e w' => e = .returned (.agg #[.slice none 0 0, .int .i64 b, .int .i64 10]) ∧ Ext w w' := by
  refine (rtokens_any s w (by omega)).mono ?_
  intro e w' h
  rcases h with ⟨h, -⟩ | ⟨-, b', hb, rfl, hx⟩ | ⟨-, hb, -⟩
  · omega
  · rw [hl] at hb
    obtain rfl := Option.some.inj hb
    exact ⟨rfl, hx⟩
  · rw [hl] at hb; cases hb

theorem tokens_long (s : ByteArray) (w : World) (hs : 4000 < s.size) (hmax : s.size ≤ 9223372036854775807) :
    Calls Tryd.prog 8 #[.string s] w fun e w' => ∃ p c, e = .returned (.tuple #[.slice p 0 c, .int .i64 0, .int .i64 2]) ∧ Ext w w' := by
  go_enter Tryd.func8, Tryd.ntmps8
  go_wp2
  go_step3
  go_wp2
  try rw [Exit.noGoto_ret]
  go_ret3
  exact ⟨_, _, rfl, Ext.refl _⟩

theorem toks_walk (s : ByteArray) (w : World) (he : Er w) (hs : s.size ≤ 9223372036854775807) :
    Calls Tryd.prog 3 #[.string s] w fun e w' => e = .returned (.bool true) ∧ Ext w w' := by
  by_cases h4 : 4000 < s.size
  · refine toks_nil s w he 0 2 (fun W x => ?_) (fun W x => ?_)
    · exact tokens_long s W h4 hs
    · refine (rtokens_any s W hs).mono ?_
      intro e w' h
      rcases h with ⟨_, h, hx⟩ | ⟨h, _⟩ | ⟨h, _⟩
      · exact ⟨_, _, h, hx⟩
      · omega
      · omega
  · have h4 : s.size ≤ 4000 := by omega
    obtain ⟨ts, o, hl⟩ : ∃ ts o, lexF (s.size + 1) s 0 = (ts, o) := ⟨_, _, rfl⟩
    cases o with
    | some b =>
      refine toks_nil s w he b 10 (fun W x => (tokens_bad s ts b W (he.on x) h4 hl).mono ?_) (fun W x => (rtokens_bad s ts b W h4 hl).mono ?_)
      · rintro e w' ⟨rfl, hx⟩; exact ⟨_, _, rfl, hx⟩
      · rintro e w' ⟨rfl, hx⟩; exact ⟨_, _, rfl, hx⟩
    | none =>
      by_cases hne : ts = []
      · subst hne
        refine toks_nil s w he 0 0 (fun W x => ?_) (fun W x => rtokens_none s W h4 hl)
        refine (tokens_any s W (he.on x) (by omega)).mono ?_
        intro e w' h
        rcases h with ⟨h, -⟩ | ⟨-, b, hb, -⟩ | ⟨-, -, v, rfl, hown, hx⟩
        · omega
        · rw [hl] at hb; cases hb
        · rw [hl] at hown
          obtain ⟨p, c, rfl⟩ := own_none hown
          exact ⟨p, c, rfl, hx⟩
      · have hlen : ts.length ≤ 4001 := by
          have := lex_len s (s.size + 1) 0
          rw [hl] at this
          simp only [] at this
          omega
        exact toks_some s w he ts hne hlen (fun W x => tokens_is s ts W (he.on x) h4 hl hne) (fun W x => rtokens_is s ts W h4 hl hne)

end Go.Proofs.YtbncceknldjbjaaDoor
