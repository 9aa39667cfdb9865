/- A chain of blocks that only lead on, told: where its ways end, what is come to, what is left. -/
import Derived.Test.YtdnhekgbfhlhoaaThR
set_option linter.unusedSimpArgs false
set_option linter.unusedVariables false
set_option maxRecDepth 10000
namespace Go.Proofs.Ytdnhekgbfhlhoaa
open Go.RowKit

/-- A row of M blocks that lead to the last one, behind a first that does so too. -/
def l1 (c M : Nat) : List RB := ⟨c, ⟨1, 0, ((M + 1 : Nat) : Int), 0⟩⟩ :: (List.replicate M ⟨0, ⟨1, 0, ((M + 1 : Nat) : Int), 0⟩⟩ ++ [⟨c, ⟨3, 0, 0, 0⟩⟩])
def Fc (c M i : Nat) : Nat := if i = 0 ∧ c = 1 then 0 else M + 1
theorem l1_len (c M : Nat) : (l1 c M).length = M + 2 := by simp [l1]
theorem l1_at {c M i : Nat} {b : RB} (h : (l1 c M)[i]? = some b) : (i = 0 ∧ b = ⟨c, ⟨1, 0, ((M + 1 : Nat) : Int), 0⟩⟩) ∨ (1 ≤ i ∧ i ≤ M ∧ b = ⟨0, ⟨1, 0, ((M + 1 : Nat) : Int), 0⟩⟩) ∨ (i = M + 1 ∧ b = ⟨c, ⟨3, 0, 0, 0⟩⟩) := by
  unfold l1 at h
  cases i with
  | zero => simp at h; exact Or.inl ⟨rfl, h.symm⟩
  | succ i =>
    rw [List.getElem?_cons_succ] at h
    by_cases hi : i < M
    · rw [List.getElem?_append_left (by simpa using hi)] at h
      exact Or.inr (Or.inl ⟨by omega, by omega, List.eq_of_mem_replicate (List.mem_of_getElem? h)⟩)
    · rw [List.getElem?_append_right (by simpa using hi)] at h
      have hj := (List.getElem?_eq_some_iff.1 h).1
      simp at hj
      obtain rfl : i = M := by omega
      simp at h
      exact Or.inr (Or.inr ⟨rfl, h.symm⟩)
theorem l1_zero (c M : Nat) : (l1 c M)[0]? = some ⟨c, ⟨1, 0, ((M + 1 : Nat) : Int), 0⟩⟩ := rfl
theorem l1_mid (c M i : Nat) (h1 : 1 ≤ i) (h2 : i ≤ M) : (l1 c M)[i]? = some ⟨0, ⟨1, 0, ((M + 1 : Nat) : Int), 0⟩⟩ := by
  obtain ⟨b, hb⟩ : ∃ b, (l1 c M)[i]? = some b := ⟨_, List.getElem?_eq_getElem (by rw [l1_len]; omega)⟩
  rcases l1_at hb with h | h | h
  · omega
  · rw [hb, h.2.2]
  · omega
theorem l1_end (c M : Nat) : (l1 c M)[M + 1]? = some ⟨c, ⟨3, 0, 0, 0⟩⟩ := by
  obtain ⟨b, hb⟩ : ∃ b, (l1 c M)[M + 1]? = some b := ⟨_, List.getElem?_eq_getElem (by rw [l1_len]; omega)⟩
  rcases l1_at hb with h | h | h
  · omega
  · omega
  · rw [hb, h.2]
theorem fz_in (c M i : Nat) (h1 : 1 ≤ i) (h2 : i ≤ M + 1) : fz (M + 2) (Fc c M) (i : Int) = ((M + 1 : Nat) : Int) := by
  unfold fz hasP Fc
  rw [if_pos (decide_eq_true (by omega))]
  simp only [Int.toNat_natCast]
  rw [if_neg (by omega)]
theorem l1_fwd (c M : Nat) (hc : c = 0 ∨ c = 1) : Fwd (l1 c M) (Fc c M) := by
  refine ⟨fun i b hb hl => ?_, fun i b hb hl => ?_⟩
  · rcases l1_at hb with ⟨rfl, rfl⟩ | ⟨h1, h2, rfl⟩ | ⟨rfl, rfl⟩
    · refine ⟨M + 1, rfl, by omega, by rw [l1_len]; omega, ?_⟩
      rcases hc with rfl | rfl
      · simp [Fc]
      · simp [lead] at hl
    · refine ⟨M + 1, rfl, by omega, by rw [l1_len]; omega, ?_⟩
      unfold Fc
      rw [if_neg (by omega), if_neg (by omega)]
    · simp [lead] at hl
  · rcases l1_at hb with ⟨rfl, rfl⟩ | ⟨h1, h2, rfl⟩ | ⟨rfl, rfl⟩
    · rcases hc with rfl | rfl
      · simp [lead] at hl
      · simp [Fc]
    · simp [lead] at hl
    · unfold Fc
      rw [if_neg (by omega)]
theorem tb_jump (c M c0 i : Nat) (h1 : 1 ≤ i) (h2 : i ≤ M + 1) : tbP (fz (M + 2) (Fc c M)) ⟨c0, ⟨1, 0, (i : Int), 0⟩⟩ = ⟨c0, ⟨1, 0, ((M + 1 : Nat) : Int), 0⟩⟩ := by
  unfold tbP turnedP ledP
  simp [fz_in c M i h1 h2]
theorem tb_ret (c M c0 : Nat) : tbP (fz (M + 2) (Fc c M)) ⟨c0, ⟨3, 0, 0, 0⟩⟩ = ⟨c0, ⟨3, 0, 0, 0⟩⟩ := by
  unfold tbP turnedP ledP
  simp
theorem l1_fix (c M : Nat) : (l1 c M).map (tbP (fz (l1 c M).length (Fc c M))) = l1 c M := by
  apply List.ext_getElem?
  intro i
  rw [List.getElem?_map, l1_len]
  cases hb : (l1 c M)[i]? with
  | none => rfl
  | some b =>
    rw [Option.map_some]
    congr 1
    rcases l1_at hb with ⟨rfl, rfl⟩ | ⟨h1, h2, rfl⟩ | ⟨rfl, rfl⟩
    · exact tb_jump c M c (M + 1) (by omega) (by omega)
    · exact tb_jump c M 0 (M + 1) (by omega) (by omega)
    · exact tb_ret c M c
theorem any_fix {l : List RB} {f : Int → Int} (h : l.map (tbP f) = l) : anyP f l = false := by
  unfold anyP
  rw [List.any_eq_false]
  intro b hb
  obtain ⟨i, hi, he⟩ := List.getElem_of_mem hb
  have h2 : (l.map (tbP f))[i]? = l[i]? := by rw [h]
  rw [List.getElem?_map, List.getElem?_eq_getElem hi, he] at h2
  injection h2 with h2
  have h3 : turnedP f b.t = b.t := congrArg RB.t h2
  rw [h3]
  simp [rneP]
def rcM (M : Nat) : List Bool := ((List.replicate (M + 2) false).set 0 true).set (M + 1) true
def gM (M : Nat) : List (List Int) := List.replicate (M + 1) [((M + 1 : Nat) : Int)] ++ [[]]
theorem l1_ways (c M : Nat) : (l1 c M).map (fun b => waysP b.t) = gM M := by
  unfold l1 gM
  simp [waysP, List.replicate_succ]
theorem gM_walk (M : Nat) : ∃ Fw, gWalk (gM M) 10 = some Fw ∧ Fw.shut = rcM M := by
  have hl : (gM M).length = M + 2 := by simp [gM]
  have g0 : (gM M)[0]? = some [((M + 1 : Nat) : Int)] := by
    unfold gM
    rw [List.getElem?_append_left (by simp)]
    simp [List.replicate_succ]
  have gE : (gM M)[M + 1]? = some [] := by
    unfold gM
    rw [List.getElem?_append_right (by simp)]
    simp
  refine ⟨⟨rcM M, ((List.replicate (M + 2) 0).set 0 (0 + 1)).set (M + 1) (0 + 0) |>.set 0 (0 + 1 + 0), (List.replicate (M + 2) none).set (M + 1) (some 0), [0, M + 1], [M + 1, 0]⟩, ?_, rfl⟩
  unfold gWalk
  rw [if_neg (by omega)]
  unfold gFrom gNew
  rw [hl]
  rw [gLook, g0]
  simp only [List.getElem?_replicate, List.getElem?_set, List.length_set, List.length_replicate]
  simp [gScan, gPt, hl]
  rw [if_pos (by omega)]
  simp only
  rw [gLook, gE]
  simp only [List.getElem?_replicate, List.getElem?_set, List.length_set, List.length_replicate]
  simp [gScan]
  rw [gLook, g0]
  simp only [List.getElem?_replicate, List.getElem?_set, List.length_set, List.length_replicate]
  simp [gScan]
  try rfl

theorem rcM_at (M i : Nat) (h : i ≤ M + 1) : (rcM M)[i]? = some (decide (i = 0 ∨ i = M + 1)) := by
  unfold rcM
  rw [List.getElem?_set, List.getElem?_set]
  by_cases h1 : i = M + 1
  · subst h1
    rw [if_pos rfl]
    simp
  · rw [if_neg (Ne.symm h1)]
    by_cases h0 : i = 0
    · subst h0
      simp
    · rw [if_neg (Ne.symm h0), List.getElem?_replicate, if_pos (by omega)]
      simp [h0, h1]
theorem keep_mid (c M : Nat) : ∀ i, 1 ≤ i → i ≤ M + 1 → keepL (l1 c M) (rcM M) i = [⟨c, ⟨1, 0, ((M + 1 : Nat) : Int), 0⟩⟩] := by
  intro i h1 h2
  induction i with
  | zero => omega
  | succ i ih =>
    by_cases h0 : i = 0
    · subst h0
      rw [keepL_step (l1_zero c M) (rcM_at M 0 (by omega))]
      simp [keepL]
    · rw [keepL_step (l1_mid c M i (by omega) (by omega)) (rcM_at M i (by omega)), ih (by omega) (by omega)]
      have : decide (i = 0 ∨ i = M + 1) = false := decide_eq_false (by omega)
      rw [this]
      simp
theorem keep_all (c M : Nat) : keepL (l1 c M) (rcM M) (l1 c M).length = [⟨c, ⟨1, 0, ((M + 1 : Nat) : Int), 0⟩⟩, ⟨c, ⟨3, 0, 0, 0⟩⟩] := by
  rw [l1_len, show M + 2 = (M + 1) + 1 from rfl, keepL_step (l1_end c M) (rcM_at M (M + 1) (Nat.le_refl _)), keep_mid c M (M + 1) (by omega) (Nat.le_refl _)]
  simp
theorem drop_l1 (c M : Nat) : dropP (l1 c M) (rcM M) = tw c c := by
  unfold dropP
  rw [keep_all]
  have hp : mvP ((List.range (l1 c M).length).map (fun k => ((keepL (l1 c M) (rcM M) k).length : Int))) ((M + 1 : Nat) : Int) = 1 := by
    unfold mvP hasP
    rw [List.length_map, List.length_range, l1_len, if_pos (decide_eq_true (by omega))]
    rw [show (((M + 1 : Nat) : Int)).toNat = M + 1 by omega, List.getElem?_map, List.getElem?_range (by omega)]
    simp [keep_mid c M (M + 1) (by omega) (Nat.le_refl _)]
  simp only [List.map_cons, List.map_nil, ledP]
  rw [hp]
  simp

/-- Behind Run two blocks of so many outputs are one, whatever leads from the first to the second. -/
theorem run_l1 (nm : ByteArray) (ps rg : Int) (a : Option Addr) (cc c M : Nat) (l : List RB) (ads : List (Option Addr × Nat)) (w : World) (hn : l.length = M + 2) (hM : M ≤ 900) (hc : c = 0 ∨ c = 1) (hcs : ∀ (i : Nat) (b : RB), l[i]? = some b → b.c ≤ 1000) (hr : RepB w (In w) a l ads)
    (hF : Fwd l (Fc c M)) (hl : l.map (tbP (fz (M + 2) (Fc c M))) = l1 c M) :
    Calls Try.prog 5 #[rfV nm ps rg a (M + 2) cc] w (RunE w nm ps rg [⟨c + c, ⟨3, 0, 0, 0⟩⟩]) := by
  obtain ⟨Fw, hw, hs⟩ := gM_walk M
  have hfix := l1_fix c M
  rw [l1_len, ← hn] at hfix
  have h := run_w nm ps rg a cc l (l1 c M) ads (Fc c M) (rcM M) 10 Fw c c w (by omega) (by omega) hcs hr hF (by rw [hn]; exact hl) (l1_fwd c M hc) hfix (any_fix hfix) (by decide) (by rw [l1_ways]; exact hw) hs (by rw [keep_all]; simp) (drop_l1 c M) (by rcases hc with rfl | rfl; exact Or.inl ⟨rfl, rfl⟩; exact Or.inr ⟨rfl, rfl⟩)
  rw [hn] at h
  exact h

/-- The law's chains: the first n lead on to one another and to the last, the other m too. -/
def cbT (n m i : Nat) : Nat := if i = n then n + m + 1 else i + 1
def cb0 (n m : Nat) : RB := ⟨1, ⟨2, 0, (if n = 0 then ((n + m + 1 : Nat) : Int) else 1), (if m = 0 then ((n + m + 1 : Nat) : Int) else ((n + 1 : Nat) : Int))⟩⟩
def cb1 (n m k : Nat) : List RB := cb0 n m :: (List.range k).map (fun i => ⟨0, ⟨1, 0, ((cbT n m (i + 1) : Nat) : Int), 0⟩⟩)
def cb2 (n m k : Nat) : List RB := cb1 n m n ++ (List.range k).map (fun i => ⟨0, ⟨1, 0, ((n + 2 + i : Nat) : Int), 0⟩⟩)
def cb (n m : Nat) : List RB := cb2 n m m ++ [⟨1, ⟨3, 0, 0, 0⟩⟩]
theorem cb_len (n m : Nat) : (cb n m).length = n + m + 2 := by simp [cb, cb2, cb1]; omega
theorem cb_at {n m i : Nat} {b : RB} (h : (cb n m)[i]? = some b) : (i = 0 ∧ b = cb0 n m) ∨ (1 ≤ i ∧ i ≤ n + m ∧ ∃ j : Nat, b = ⟨0, ⟨1, 0, (j : Int), 0⟩⟩ ∧ i < j ∧ j ≤ n + m + 1) ∨ (i = n + m + 1 ∧ b = ⟨1, ⟨3, 0, 0, 0⟩⟩) := by
  have hi := (List.getElem?_eq_some_iff.1 h).1
  rw [cb_len] at hi
  unfold cb cb2 cb1 at h
  by_cases h0 : i = 0
  · subst h0
    simp at h
    exact Or.inl ⟨rfl, h.symm⟩
  · obtain ⟨k, rfl⟩ : ∃ k, i = k + 1 := ⟨i - 1, by omega⟩
    rw [List.cons_append, List.cons_append, List.getElem?_cons_succ] at h
    by_cases hk : k < n
    · rw [List.append_assoc, List.getElem?_append_left (by simpa using hk), List.getElem?_map, List.getElem?_range hk] at h
      simp at h
      refine Or.inr (Or.inl ⟨by omega, by omega, cbT n m (k + 1), h.symm, ?_, ?_⟩)
      · unfold cbT; split <;> omega
      · unfold cbT; split <;> omega
    · rw [List.append_assoc, List.getElem?_append_right (by simpa using hk)] at h
      simp only [List.length_map, List.length_range] at h
      by_cases hk2 : k - n < m
      · rw [List.getElem?_append_left (by simpa using hk2), List.getElem?_map, List.getElem?_range hk2] at h
        simp at h
        exact Or.inr (Or.inl ⟨by omega, by omega, n + 2 + (k - n), by rw [← h]; simp, by omega, by omega⟩)
      · rw [List.getElem?_append_right (by simpa using hk2)] at h
        simp only [List.length_map, List.length_range] at h
        obtain rfl : k = n + m := by omega
        rw [show n + m - n - m = 0 by omega] at h
        simp at h
        exact Or.inr (Or.inr ⟨rfl, h.symm⟩)
theorem cb_fwd (n m : Nat) : Fwd (cb n m) (Fc 1 (n + m)) := by
  refine ⟨fun i b hb hl => ?_, fun i b hb hl => ?_⟩
  · rcases cb_at hb with ⟨rfl, rfl⟩ | ⟨h1, h2, j, rfl, h3, h4⟩ | ⟨rfl, rfl⟩
    · simp [lead, cb0] at hl
    · refine ⟨j, rfl, h3, by rw [cb_len]; omega, ?_⟩
      unfold Fc
      rw [if_neg (by omega), if_neg (by omega)]
    · simp [lead] at hl
  · rcases cb_at hb with ⟨rfl, rfl⟩ | ⟨h1, h2, j, rfl, h3, h4⟩ | ⟨rfl, rfl⟩
    · simp [Fc]
    · simp [lead] at hl
    · unfold Fc
      rw [if_neg (by omega)]
theorem tb_cb0 (n m : Nat) : tbP (fz (n + m + 2) (Fc 1 (n + m))) (cb0 n m) = ⟨1, ⟨1, 0, ((n + m + 1 : Nat) : Int), 0⟩⟩ := by
  have e1 : fz (n + m + 2) (Fc 1 (n + m)) (if n = 0 then ((n + m + 1 : Nat) : Int) else 1) = ((n + m + 1 : Nat) : Int) := by
    split
    · exact fz_in 1 (n + m) (n + m + 1) (by omega) (by omega)
    · exact fz_in 1 (n + m) 1 (by omega) (by omega)
  have e2 : fz (n + m + 2) (Fc 1 (n + m)) (if m = 0 then ((n + m + 1 : Nat) : Int) else ((n + 1 : Nat) : Int)) = ((n + m + 1 : Nat) : Int) := by
    split
    · exact fz_in 1 (n + m) (n + m + 1) (by omega) (by omega)
    · exact fz_in 1 (n + m) (n + 1) (by omega) (by omega)
  unfold tbP turnedP ledP cb0
  simp only [if_true, e1, e2]
  simp
theorem cb_turn (n m : Nat) : (cb n m).map (tbP (fz (n + m + 2) (Fc 1 (n + m)))) = l1 1 (n + m) := by
  apply List.ext_getElem?
  intro i
  rw [List.getElem?_map]
  cases hb : (cb n m)[i]? with
  | none =>
    have := List.getElem?_eq_none_iff.1 hb
    rw [cb_len] at this
    rw [List.getElem?_eq_none (by rw [l1_len]; omega)]
    rfl
  | some b =>
    rw [Option.map_some]
    rcases cb_at hb with ⟨rfl, rfl⟩ | ⟨h1, h2, j, rfl, h3, h4⟩ | ⟨rfl, rfl⟩
    · rw [tb_cb0, l1_zero]
    · rw [tb_jump 1 (n + m) 0 j (by omega) (by omega), l1_mid 1 (n + m) i h1 h2]
    · rw [tb_ret, l1_end]
theorem cb_cs (n m : Nat) : ∀ (i : Nat) (b : RB), (cb n m)[i]? = some b → b.c ≤ 1000 := by
  intro i b hb
  rcases cb_at hb with ⟨rfl, rfl⟩ | ⟨_, _, j, rfl, _⟩ | ⟨rfl, rfl⟩ <;> simp [cb0]

/-- What the law holds awake. -/
def aw3 : List RB := [⟨0, ⟨1, 0, 1, 0⟩⟩, ⟨0, ⟨1, 0, 2, 0⟩⟩, ⟨0, ⟨3, 0, 0, 0⟩⟩]
theorem aw3_fwd : Fwd aw3 (Fc 0 1) := by
  refine ⟨fun i b hb hl => ?_, fun i b hb hl => ?_⟩
  · have hi := (List.getElem?_eq_some_iff.1 hb).1
    simp [aw3] at hi
    rcases (show i = 0 ∨ i = 1 ∨ i = 2 by omega) with rfl | rfl | rfl
    · simp [aw3] at hb
      subst hb
      exact ⟨1, rfl, by omega, by decide, rfl⟩
    · simp [aw3] at hb
      subst hb
      exact ⟨2, rfl, by omega, by decide, rfl⟩
    · simp [aw3] at hb
      subst hb
      simp [lead] at hl
  · have hi := (List.getElem?_eq_some_iff.1 hb).1
    simp [aw3] at hi
    rcases (show i = 0 ∨ i = 1 ∨ i = 2 by omega) with rfl | rfl | rfl
    · simp [aw3] at hb
      subst hb
      simp [lead] at hl
    · simp [aw3] at hb
      subst hb
      simp [lead] at hl
    · rfl
theorem aw3_turn : aw3.map (tbP (fz (1 + 2) (Fc 0 1))) = l1 0 1 := by rfl

end Go.Proofs.Ytdnhekgbfhlhoaa
