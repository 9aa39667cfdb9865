/- The word at a place; all words of a text. -/
import Derived.Test.YtbncceknldjbjaaDoorLexNum
import Derived.Test.YtbncceknldjbjaaDoorLexQuote
set_option linter.unusedSimpArgs false
set_option linter.unusedVariables false
set_option maxRecDepth 10000
namespace Go.Proofs.YtbncceknldjbjaaDoor
open Go.RowKit

/-- The word at a place. -/
def tokT (s : ByteArray) (o : Nat) : Option (Int × ByteArray × Int × Nat) :=
  match (L s)[o]? with
  | none => none
  | some c => if dg c then numT s o else if nm c then nameT s o else if c.toNat = 34 then textT s o else opT s o

set_option maxHeartbeats 1000000 in
theorem token_num (s : ByteArray) (o : Nat) (w : World) (ho : o < s.size) (hs : s.size ≤ 140737488355328) (hd : dg s[o] = true) (T : Option (Int × ByteArray × Int × Nat)) (hT : ∀ W, Ext w W → Tells 26 s o W T) : Tells 15 s o w T := by
  have HC := hide (fun W (h : Ext w W) => hT W h)
  unfold Tells at *
  clear hT
  rcases T with _ | ⟨k, t, n, m⟩
  all_goals
    go_enter Tryd.func15, Tryd.ntmps15
    go_wp2_with (first
      | (go_at_call 25; refine Calls.mono (isDigit_any _ _) ?_; rintro e w1 ⟨rfl, rfl⟩)
      | (go_at_call 27; refine Calls.mono (inName_any _ _) ?_; rintro e w1 ⟨rfl, rfl⟩)
      | (go_at_call 26; refine Calls.mono (unhide HC _ (Ext.alloc _ _)) ?_; rintro e w1 ⟨rfl, hw⟩; have f4 := (Four.new _ _ _ _ _ _).on hw; have z0 := f4.c0; have z1 := f4.c1; have z2 := f4.c2; have z3 := f4.c3; have zf := f4.fz; have H := hide ((Ext.alloc _ _).trans hw); clear hw f4))
  · exact bodyPost_ret (v := .tuple #[tokV 0 ⟨#[]⟩ 0 0, .int .i64 0, .bool false]) (by simp [results, Tryd.results15, go_sem, z0, z1, z2, z3]) rfl ⟨rfl, set4_ext (unhide H) _ (Nat.le_refl _) _ _ _ _⟩
  · exact bodyPost_ret (v := .tuple #[tokV k t n o, .int .i64 m, .bool true]) (by simp [results, Tryd.results15, go_sem, z0, z1, z2, z3]) rfl ⟨rfl, set4_ext (unhide H) _ (Nat.le_refl _) _ _ _ _⟩

set_option maxHeartbeats 1000000 in
theorem token_name (s : ByteArray) (o : Nat) (w : World) (ho : o < s.size) (hs : s.size ≤ 140737488355328) (hd : dg s[o] = false) (hn : nm s[o] = true) (T : Option (Int × ByteArray × Int × Nat)) (hT : ∀ W, Ext w W → Tells 28 s o W T) : Tells 15 s o w T := by
  have HC := hide (fun W (h : Ext w W) => hT W h)
  unfold Tells at *
  clear hT
  rcases T with _ | ⟨k, t, n, m⟩
  all_goals
    go_enter Tryd.func15, Tryd.ntmps15
    go_wp2_with (first
      | (go_at_call 25; refine Calls.mono (isDigit_any _ _) ?_; rintro e w1 ⟨rfl, rfl⟩)
      | (go_at_call 27; refine Calls.mono (inName_any _ _) ?_; rintro e w1 ⟨rfl, rfl⟩)
      | (go_at_call 28; refine Calls.mono (unhide HC _ (Ext.alloc _ _)) ?_; rintro e w1 ⟨rfl, hw⟩; have f4 := (Four.new _ _ _ _ _ _).on hw; have z0 := f4.c0; have z1 := f4.c1; have z2 := f4.c2; have z3 := f4.c3; have zf := f4.fz; have H := hide ((Ext.alloc _ _).trans hw); clear hw f4))
  · exact bodyPost_ret (v := .tuple #[tokV 0 ⟨#[]⟩ 0 0, .int .i64 0, .bool false]) (by simp [results, Tryd.results15, go_sem, z0, z1, z2, z3]) rfl ⟨rfl, set4_ext (unhide H) _ (Nat.le_refl _) _ _ _ _⟩
  · exact bodyPost_ret (v := .tuple #[tokV k t n o, .int .i64 m, .bool true]) (by simp [results, Tryd.results15, go_sem, z0, z1, z2, z3]) rfl ⟨rfl, set4_ext (unhide H) _ (Nat.le_refl _) _ _ _ _⟩

set_option maxHeartbeats 1000000 in
theorem token_text (s : ByteArray) (o : Nat) (w : World) (ho : o < s.size) (hs : s.size ≤ 140737488355328) (hd : dg s[o] = false) (hn : nm s[o] = false) (hq : s[o].toNat = 34) (T : Option (Int × ByteArray × Int × Nat)) (hT : ∀ W, Ext w W → Tells 29 s o W T) : Tells 15 s o w T := by
  have HC := hide (fun W (h : Ext w W) => hT W h)
  unfold Tells at *
  clear hT
  have b1 : ((s[o].toNat : Int) == 34) = true := by simp; omega
  clear hq
  rcases T with _ | ⟨k, t, n, m⟩
  all_goals
    go_enter Tryd.func15, Tryd.ntmps15
    go_wp2_with (first
      | (go_at_call 25; refine Calls.mono (isDigit_any _ _) ?_; rintro e w1 ⟨rfl, rfl⟩)
      | (go_at_call 27; refine Calls.mono (inName_any _ _) ?_; rintro e w1 ⟨rfl, rfl⟩)
      | (go_at_call 29; refine Calls.mono (unhide HC _ (Ext.alloc _ _)) ?_; rintro e w1 ⟨rfl, hw⟩; have f4 := (Four.new _ _ _ _ _ _).on hw; have z0 := f4.c0; have z1 := f4.c1; have z2 := f4.c2; have z3 := f4.c3; have zf := f4.fz; have H := hide ((Ext.alloc _ _).trans hw); clear hw f4))
  · exact bodyPost_ret (v := .tuple #[tokV 0 ⟨#[]⟩ 0 0, .int .i64 0, .bool false]) (by simp [results, Tryd.results15, go_sem, z0, z1, z2, z3]) rfl ⟨rfl, set4_ext (unhide H) _ (Nat.le_refl _) _ _ _ _⟩
  · exact bodyPost_ret (v := .tuple #[tokV k t n o, .int .i64 m, .bool true]) (by simp [results, Tryd.results15, go_sem, z0, z1, z2, z3]) rfl ⟨rfl, set4_ext (unhide H) _ (Nat.le_refl _) _ _ _ _⟩

set_option maxHeartbeats 1000000 in
theorem token_op (s : ByteArray) (o : Nat) (w : World) (ho : o < s.size) (hs : s.size ≤ 140737488355328) (hd : dg s[o] = false) (hn : nm s[o] = false) (hq : ¬ s[o].toNat = 34) (T : Option (Int × ByteArray × Int × Nat)) (hT : ∀ W, Ext w W → Tells 30 s o W T) : Tells 15 s o w T := by
  have HC := hide (fun W (h : Ext w W) => hT W h)
  unfold Tells at *
  clear hT
  have b1 : ((s[o].toNat : Int) == 34) = false := by simp; omega
  clear hq
  rcases T with _ | ⟨k, t, n, m⟩
  all_goals
    go_enter Tryd.func15, Tryd.ntmps15
    go_wp2_with (first
      | (go_at_call 25; refine Calls.mono (isDigit_any _ _) ?_; rintro e w1 ⟨rfl, rfl⟩)
      | (go_at_call 27; refine Calls.mono (inName_any _ _) ?_; rintro e w1 ⟨rfl, rfl⟩)
      | (go_at_call 30; refine Calls.mono (unhide HC _ (Ext.alloc _ _)) ?_; rintro e w1 ⟨rfl, hw⟩; have f4 := (Four.new _ _ _ _ _ _).on hw; have z0 := f4.c0; have z1 := f4.c1; have z2 := f4.c2; have z3 := f4.c3; have zf := f4.fz; have H := hide ((Ext.alloc _ _).trans hw); clear hw f4))
  · exact bodyPost_ret (v := .tuple #[tokV 0 ⟨#[]⟩ 0 0, .int .i64 0, .bool false]) (by simp [results, Tryd.results15, go_sem, z0, z1, z2, z3]) rfl ⟨rfl, set4_ext (unhide H) _ (Nat.le_refl _) _ _ _ _⟩
  · exact bodyPost_ret (v := .tuple #[tokV k t n o, .int .i64 m, .bool true]) (by simp [results, Tryd.results15, go_sem, z0, z1, z2, z3]) rfl ⟨rfl, set4_ext (unhide H) _ (Nat.le_refl _) _ _ _ _⟩

theorem token_any (s : ByteArray) (o : Nat) (w : World) (ho : o < s.size) (hs : s.size ≤ 140737488355328) (he : Er w) : Tells 15 s o w (tokT s o) := by
  unfold tokT
  rw [L_get s o ho]
  show Tells _ s o w (if dg s[o] = true then _ else _)
  cases hd : dg s[o] with
  | true => rw [if_pos rfl]; exact token_num s o w ho hs hd _ fun W h => number_any s o W ho hs hd (he.on h)
  | false =>
    rw [if_neg (by decide)]
    cases hn : nm s[o] with
    | true => rw [if_pos rfl]; exact token_name s o w ho hs hd hn _ fun W h => name_any s o W (by omega) hs
    | false =>
      rw [if_neg (by decide)]
      by_cases hq : s[o].toNat = 34
      · rw [if_pos hq]; exact token_text s o w ho hs hd hn hq _ fun W h => text_any s o W ho hs
      · rw [if_neg hq]; exact token_op s o w ho hs hd hn hq _ fun W h => op_any s o W ho hs

theorem txF_pos : ∀ (f : Nat) (l : List UInt8) (p : List UInt8 × Nat), txF f l = some p → 1 ≤ p.2 ∧ p.2 ≤ l.length := by
  intro f
  induction f with
  | zero => intro l p h; simp [txF] at h
  | succ f ih =>
    intro l p h
    cases l with
    | nil => simp [txF] at h
    | cons c r =>
      rw [txF] at h
      split at h
      · cases h
      · split at h
        · cases h; simp
        · split at h
          · cases h
          · obtain ⟨q, hq, rfl⟩ := Option.map_eq_some_iff.1 h
            have := ih _ _ hq
            have h2 := sg_le (c :: r)
            rw [List.length_drop] at this
            simp only [] at *
            omega

/-- A word is not empty, and ends within the text. -/
theorem tok_lt (s : ByteArray) (o : Nat) (k : Int) (t : ByteArray) (n : Int) (m : Nat) (h : tokT s o = some (k, t, n, m)) : o < m ∧ m ≤ s.size := by
  unfold tokT at h
  by_cases ho : o < s.size
  · rw [L_get s o ho] at h
    replace h : (if dg s[o] = true then _ else _) = _ := h
    cases hd : dg s[o] with
    | true =>
      rw [hd, if_pos rfl] at h
      have h1 := (num_digits s o ho hd).1
      have h2 := nd_le s o
      unfold numT at h
      split at h
      · cases h
      · split at h
        · rename_i hi
          split at h
          · cases h
          · cases h
            by_cases hj : o + nd s o < s.size
            · omega
            · rw [isI_end s _ (by omega)] at hi; cases hi
        · split at h
          · cases h
          · cases h; omega
    | false =>
      rw [hd, if_neg (by decide)] at h
      cases hn : nm s[o] with
      | true =>
        rw [hn, if_pos rfl] at h
        have h1 : 1 ≤ run nm ((L s).drop o) := by rw [L_drop s o ho]; exact run_pos hn
        have h2 := run_le nm ((L s).drop o)
        rw [List.length_drop, L_len] at h2
        unfold nameT at h
        split at h
        · cases h
        · cases h; omega
      | false =>
        rw [hn, if_neg (by decide)] at h
        split at h
        · unfold textT at h
          obtain ⟨q, hq, e⟩ := Option.map_eq_some_iff.1 h
          cases e
          have := txF_pos _ _ _ hq
          rw [List.length_drop, L_len] at this
          omega
        · unfold opT at h
          have h2 := opL_le ((L s).drop o)
          rw [List.length_drop, L_len] at h2
          split at h
          · cases h
          · cases h; omega
  · rw [List.getElem?_eq_none (by rw [L_len]; omega)] at h
    cases h

/-- A word as plain data. -/
structure Tk where
  k : Int
  t : ByteArray
  n : Int
  o : Nat
def tkC (x : Tk) : List Value := [.int .i64 x.k, .string x.t, .int .i64 x.n, .int .i64 x.o]

/-- The words of a text from a place on; or some of them, and the place at which none begins. -/
def lexF : Nat → ByteArray → Nat → List Tk × Option Nat
  | 0, _, _ => ([], some 0)
  | f + 1, s, o => if s.size ≤ o + skp false ((L s).drop o) then ([], none) else
      match tokT s (o + skp false ((L s).drop o)) with
      | none => ([], some (o + skp false ((L s).drop o)))
      | some (k, t, n, m) => (⟨k, t, n, o + skp false ((L s).drop o)⟩ :: (lexF f s m).1, (lexF f s m).2)

end Go.Proofs.YtbncceknldjbjaaDoor
