/- What ifs behind elses are printed as: by induction. -/
import Derived.Test.YthoablpjkgeekaaGreatDoorZb28
set_option linter.unusedSimpArgs false
set_option linter.unusedVariables false
set_option maxRecDepth 10000

namespace Go.Proofs.YthoablpjkgeekaaGreatDoor
open Go.RowKit

theorem wW_one (l : List UInt8) (c : Int) (s : List UInt8) (h0 : l ≠ []) (hl : l.length + 1 + s.length ≤ 4000) : wW ((l, false), c) [⟨s.toArray⟩] = ((l ++ 32 :: s, false), c) := by
  have hp := List.length_pos_iff.2 h0
  unfold wW wdsS wdsS wdS wdN wdL
  simp only
  rw [size_mk, if_neg (by omega), if_neg (by omega)]
  simp
theorem wEnt_one (k : WrP) (l : List UInt8) (c : Int) (h1 : 0 ≤ c) (h2 : c ≤ 1000) : wEnt k ((l, false), c) = k ((l, false), c + 1) := by
  unfold wEnt entN
  simp only
  rw [if_pos (by omega), if_neg (by simp; omega)]
theorem wE_int (f : Nat) (d : Nat) (hd : d < 10) (l : List UInt8) (c : Int) (h1 : 0 ≤ c) (h2 : c ≤ 1000) : wE (f + 1) (nInt d) 1 ((l, false), c) = some (wW ((l, false), c + 1) [dig1 d]) := by
  unfold wE nInt entN
  simp only
  rw [if_pos ⟨h1, by omega, by decide⟩, if_neg (by simp; omega), if_neg (by decide), if_pos trivial, if_pos (by omega)]
theorem wB_nil (S : PN → WrP) (l : List UInt8) (c : Int) (h0 : l ≠ []) (hl : l.length ≤ 3000) (h1 : 0 ≤ c) (h2 : c ≤ 1000) : wB S (nBl []) ((l, false), c) = some ((l ++ [32, 123, 32, 125], false), c + 1) := by
  unfold wB nBl
  simp only
  rw [if_pos trivial, if_neg (by decide), wEnt_one _ _ _ h1 h2]
  have e1 := wW_one l (c + 1) [123] h0 (by simp; omega)
  have e2 := wW_one (l ++ [32, 123]) (c + 1) [125] (by simp) (by simp; omega)
  rw [show (⟨#[123]⟩ : ByteArray) = ⟨[(123 : UInt8)].toArray⟩ from rfl, e1, wBL, wThen]
  show some (wW _ [⟨[(125 : UInt8)].toArray⟩]) = _
  rw [e2]
  simp
theorem wGrd_U (f d : Nat) (hd : d < 10) (S : PN → WrP) (l : List UInt8) (c : Int) (h0 : l ≠ []) (hl : l.length ≤ 2900) (h1 : 0 ≤ c) (h2 : c ≤ 900) :
    wGrd (wE (f + 1)) (wB S) ⟨#[105, 102]⟩ [nInt d, nBl []] ((l, false), c) = some ((l ++ [32, 105, 102, 32, UInt8.ofNat (48 + d), 32, 123, 32, 125], false), c + 2) := by
  unfold wGrd
  have e1 := wW_one l c [105, 102] h0 (by simp; omega)
  rw [show (⟨#[105, 102]⟩ : ByteArray) = ⟨[(105 : UInt8), 102].toArray⟩ from rfl]
  simp only
  rw [e1, wE_int f d hd _ c h1 (by omega)]
  have e2 := wW_one (l ++ [32, 105, 102]) (c + 1) [UInt8.ofNat (48 + d)] (by simp) (by simp; omega)
  have e3 : dig1 d = ⟨[UInt8.ofNat (48 + d)].toArray⟩ := by unfold dig1; simp
  rw [e3, e2]
  simp only
  rw [wB_nil S _ (c + 1) (by simp) (by simp; omega) (by omega) (by omega)]
  simp
  omega
theorem trU_k (n : Nat) : (trU n).k = 3 := by cases n <;> rfl
theorem wS_one (E : PN → Int → WrP) (f : Nat) (ls : List PN) (l : List UInt8) (c : Int) (h1 : 0 ≤ c) (h2 : c ≤ 1000) : wS E (f + 1) (nIf ls) ((l, false), c) = wCho E (wB (wS E f)) (wOth (wS E f) (wB (wS E f))) ls ((l, false), c + 1) := by
  rw [wS]
  unfold wSt nIf
  rw [wEnt_one _ _ _ h1 h2]
  simp only
  rw [if_neg (by decide), if_neg (by decide), if_neg (by decide), if_pos trivial]
theorem stepU (f n : Nat) (l : List UInt8) (c : Int) (h0 : l ≠ []) (hl : l.length ≤ 2900) (h1 : 0 ≤ c) (h2 : c ≤ 800) :
    wS (wE 200) (f + 1) (trU (n + 1)) ((l, false), c) = wS (wE 200) f (trU n) ((l ++ [32, 105, 102, 32, 49, 32, 123, 32, 125, 32, 101, 108, 115, 101], false), c + 3) := by
  rw [trU, wS_one _ _ _ _ _ h1 (by omega)]
  unfold wCho
  simp only
  have e := wGrd_U 199 1 (by omega) (wS (wE 200) f) l (c + 1) h0 hl (by omega) (by omega)
  rw [show nInt 1 = nInt ((1 : Nat) : Int) from rfl, e]
  simp only
  have e2 := wW_one (l ++ [32, 105, 102, 32, 49, 32, 123, 32, 125]) (c + 1 + 2) [101, 108, 115, 101] (by simp) (by simp; omega)
  show wOth _ _ _ (wW ((l ++ [32, 105, 102, 32, 49, 32, 123, 32, 125], false), c + 1 + 2) [⟨[(101 : UInt8), 108, 115, 101].toArray⟩]) = _
  rw [e2]
  unfold wOth nBl
  simp only
  rw [if_pos trivial, if_pos (trU_k n), show c + 1 + 2 = c + 3 by omega]
  simp
def bkC2 : List UInt8 := [32, 105, 102, 32, 49, 32, 123, 32, 125, 32, 101, 108, 115, 101]
theorem allU (k : Nat) : ∀ (n : Nat) (l : List UInt8) (c : Int), l ≠ [] → l.length + 14 * n ≤ 2800 → 0 ≤ c → c + 3 * n ≤ 700 →
    wS (wE 200) (n + 1 + k) (trU n) ((l, false), c) = some ((l ++ rp bkC2 n ++ [32, 105, 102, 32, 50, 32, 123, 32, 125], false), c + 3 * n + 3) := by
  intro n
  induction n with
  | zero =>
    intro l c h0 hl h1 h2
    rw [trU, show 0 + 1 + k = k + 1 by omega, wS_one _ _ _ _ _ h1 (by omega)]
    unfold wCho
    simp only
    have e := wGrd_U 199 2 (by omega) (wS (wE 200) k) l (c + 1) h0 (by omega) (by omega) (by omega)
    rw [show nInt 2 = nInt ((2 : Nat) : Int) from rfl, e]
    simp [rp]
    omega
  | succ n ih =>
    intro l c h0 hl h1 h2
    rw [show n + 1 + 1 + k = (n + 1 + k) + 1 by omega, stepU _ n l c h0 (by omega) h1 (by omega), ih _ _ (by simp) (by simp; omega) (by omega) (by omega)]
    have e : ∀ m, bkC2 ++ rp bkC2 m = rp bkC2 m ++ bkC2 := by
      intro m
      induction m with
      | zero => simp [rp]
      | succ m ih => rw [rp, ← List.append_assoc, ih]
    have e2 : l ++ [32, 105, 102, 32, 49, 32, 123, 32, 125, 32, 101, 108, 115, 101] ++ rp bkC2 n = l ++ rp bkC2 (n + 1) := by
      rw [List.append_assoc]
      congr 1
      exact e n
    rw [e2]
    congr 2
    omega
theorem prU (n : Nat) (hn : n < 60) : ∃ c, wFs (wE 200) 200 [⟨⟨#[109, 97, 105, 110]⟩, [], nBl [trU n]⟩] (([], false), 0) = some ((bkU n, false), c) := by
  have h0 : wPar [] (wW (([], false), 0) [⟨#[102, 110]⟩, ⟨#[109, 97, 105, 110]⟩]) = (([102, 110, 32, 109, 97, 105, 110, 32, 40, 32, 41], false), 0) := by kernel_rfl
  have h1 : wBk (wE 200) 200 (nBl [trU n]) (([102, 110, 32, 109, 97, 105, 110, 32, 40, 32, 41], false), 0) = some ((bkU n, false), 0 + 1 + 3 * (n : Int) + 3) := by
    unfold wBk wB nBl
    simp only
    rw [if_pos trivial, if_neg (by simp), wEnt_one _ _ _ (by omega) (by omega)]
    have e1 := wW_one [102, 110, 32, 109, 97, 105, 110, 32, 40, 32, 41] (0 + 1) [123] (by simp) (by simp)
    rw [show (⟨#[123]⟩ : ByteArray) = ⟨[(123 : UInt8)].toArray⟩ from rfl, e1, wBL]
    simp only
    rw [if_neg (by decide)]
    have e2 := allU (199 - n) n [102, 110, 32, 109, 97, 105, 110, 32, 40, 32, 41, 32, 123] (0 + 1) (by simp) (by simp; omega) (by omega) (by omega)
    rw [show n + 1 + (199 - n) = 200 by omega] at e2
    show wThen (match wS (wE 200) 200 (trU n) (([102, 110, 32, 109, 97, 105, 110, 32, 40, 32, 41, 32, 123], false), 0 + 1) with | none => none | some y => wBL _ [] y) _ = _
    rw [e2]
    show some (wW ((_, false), _) [⟨[(125 : UInt8)].toArray⟩]) = _
    have hr : (rp bkC2 n).length = n * 14 := rp_len _ _
    rw [wW_one _ _ _ (by simp) (by simp [hr]; omega)]
    have e : ∀ m, (32 : UInt8) :: rp bkC m = rp bkC2 m ++ [32] := by
      intro m
      induction m with
      | zero => simp [rp]
      | succ m ih => rw [rp, rp, ← List.cons_append, ih]; simp [bkC, bkC2]
    have e3 : bkU n = [102, 110, 32, 109, 97, 105, 110, 32, 40, 32, 41, 32, 123] ++ ((32 : UInt8) :: rp bkC n) ++ bkD ++ bkE := by unfold bkU bkA; simp
    rw [e3, e]
    simp [bkD, bkE]
  refine ⟨0 + 1 + 3 * (n : Int) + 3, ?_⟩
  rw [wFs]
  simp only
  rw [if_neg (by decide), if_neg (fun h => by rcases h with h | h | h <;> exact absurd h (by decide)), h0, h1]
  rfl

end Go.Proofs.YthoablpjkgeekaaGreatDoor
