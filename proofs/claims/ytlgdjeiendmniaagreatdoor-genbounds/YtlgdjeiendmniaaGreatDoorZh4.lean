/- The code of GenBounds' statements. -/
import Derived.Test.YtlgdjeiendmniaaGreatDoorZh3
import Derived.Test.YtlgdjeiendmniaaGreatDoorZg34
set_option linter.unusedSimpArgs false
set_option linter.unusedVariables false
set_option maxRecDepth 10000

namespace Go.Proofs.YtlgdjeiendmniaaGreatDoor
open Go.RowKit Go.Maps

theorem can_step (f : Nat) (x : PN) (r : List PN) (c : Nat) (h1 : hasP x = some true) (h2 : x.k ≠ 17) (h3 : x.k ≠ 10) (h4 : x.l.length ≤ 1000000) (h5 : r.length ≤ 1000000) : canL (f + 1) (x :: r) c = if 1000 < c then some false else canL f (x.l.reverse ++ r) (c + 1) := by
  rw [canL]
  split
  · rfl
  · rw [if_neg (by omega), h1]
theorem has_do : hasP doN = some true := by decide
theorem has_bin : hasP ⟨11, 6, emptyB, 0, [oneN, oneN]⟩ = some true := by decide
theorem has_one : hasP oneN = some true := by decide
theorem can_do : ∀ (n c f : Nat), n ≤ 300 → 4 * n + 1 ≤ f → canL f (List.replicate n doN) c = some (decide (c + 4 * n ≤ 1000)) := by
  intro n
  induction n with
  | zero =>
    intro c f _ hf
    obtain ⟨f, rfl⟩ : ∃ k, f = k + 1 := ⟨f - 1, by omega⟩
    rfl
  | succ n ih =>
    intro c f hn hf
    obtain ⟨f, rfl⟩ : ∃ k, f = k + 4 := ⟨f - 4, by omega⟩
    have hl : (List.replicate n doN).length ≤ 300 := by simp; omega
    rw [List.replicate_succ, can_step _ _ _ _ has_do (by decide) (by decide) (by decide) (by omega)]
    by_cases h0 : 1000 < c
    · rw [if_pos h0, decide_eq_false (by omega)]
    rw [if_neg h0]
    show canL (f + 2 + 1) (⟨11, 6, emptyB, 0, [oneN, oneN]⟩ :: List.replicate n doN) (c + 1) = _
    rw [can_step _ _ _ _ has_bin (by decide) (by decide) (by decide) (by omega)]
    by_cases h1 : 1000 < c + 1
    · rw [if_pos h1, decide_eq_false (by omega)]
    rw [if_neg h1]
    show canL (f + 1 + 1) (oneN :: oneN :: List.replicate n doN) (c + 2) = _
    rw [can_step _ _ _ _ has_one (by decide) (by decide) (by decide) (by simp; omega)]
    by_cases h2 : 1000 < c + 2
    · rw [if_pos h2, decide_eq_false (by omega)]
    rw [if_neg h2]
    show canL (f + 1) (oneN :: List.replicate n doN) (c + 3) = _
    rw [can_step _ _ _ _ has_one (by decide) (by decide) (by decide) (by omega)]
    by_cases h3 : 1000 < c + 3
    · rw [if_pos h3, decide_eq_false (by omega)]
    rw [if_neg h3]
    show canL f (List.replicate n doN) (c + 3 + 1) = _
    rw [ih (c + 3 + 1) f (by omega) (by omega)]
    congr 1
    rw [decide_eq_decide]
    omega
theorem prt_do : ∀ (n : Nat) (i : Int), 0 ≤ i → prtL 0 (List.replicate n doN) i = true := by
  intro n
  induction n with
  | zero => intro i _; rfl
  | succ n ih =>
    intro i hi
    rw [List.replicate_succ, prtL, if_neg (by omega), ih (i + 1) (by omega)]
    rfl
theorem has_blk (n : Nat) (hn : n ≤ 300) : hasP (gdB n) = some true := by
  unfold hasP gdB
  rw [if_pos (show (0 : Int) ≤ 10 by decide)]
  show (if ((List.replicate n doN).length : Int) < 0 ∨ 9223372036854775807 < ((List.replicate n doN).length : Int) then some false else some (prtL 0 (List.replicate n doN) 0)) = _
  rw [if_neg (by simp; omega), prt_do n 0 (by omega)]
theorem can_blk (n : Nat) (hn : n ≤ 300) : canP 100000 (gdB n) = some (decide (4 * n ≤ 1000)) := by
  unfold canP
  rw [if_pos (show isSt (gdB n).k = true from (show isSt 10 = true by decide)), show (100000 : Nat) = 99999 + 1 from rfl, canL, if_neg (by decide), if_neg (by show ¬ ((10 : Int) = 17 ∨ 1000000 < (List.replicate n doN).length ∨ 1000000 < 0); simp; omega), has_blk n hn]
  simp only
  show canL 99999 ((List.replicate n doN).reverse ++ []) 0 = _
  rw [List.append_nil, List.reverse_replicate, can_do n 0 99999 hn (by omega)]
  simp

def gdQ : List KI := [⟨1, 0, 0⟩, ⟨1, 0, 0⟩, ⟨5, 6, 0⟩, ⟨4, 0, 0⟩]
def rq : Nat → List KI
  | 0 => []
  | n + 1 => rq n ++ gdQ
theorem rq_len : ∀ n, (rq n).length = 4 * n := by
  intro n
  induction n with
  | zero => rfl
  | succ n ih => rw [rq, List.length_append, ih]; show 4 * n + 4 = _; omega
theorem rq_at : ∀ (n j : Nat), j < 4 * n → (rq n)[j]? = gdQ[j % 4]? := by
  intro n
  induction n with
  | zero => intro j h; omega
  | succ n ih =>
    intro j h
    rw [rq]
    by_cases hj : j < 4 * n
    · rw [List.getElem?_append_left (by rw [rq_len]; exact hj), ih j hj]
    · rw [List.getElem?_append_right (by rw [rq_len]; omega), rq_len]
      congr 1
      omega
def gdS : Nat → GM
  | 0 => ⟨[], [], [], 0⟩
  | n + 1 => ⟨rq (n + 1), [some 1], [], 0⟩
theorem gG_ok {m : GM} (h : m.ok = true) : gG m = some m := by unfold gG; rw [if_pos h]
theorem ok_of (l : List KI) (cs : List (Option Int)) (h1 : l.length ≤ 50000) (h2 : cs = [some 1]) : (⟨l, cs, [], 0⟩ : GM).ok = true := by
  subst h2
  unfold GM.ok
  simp only [Bool.and_eq_true, decide_eq_true_eq]
  exact ⟨h1, by decide, by decide, by decide⟩
theorem give_one (n : Nat) : (gdS n).give (some 1) = ⟨rq n ++ [⟨1, 0, 0⟩], [some 1], [], 0⟩ := by
  cases n with
  | zero => rfl
  | succ n => rfl
theorem gS_do (f n : Nat) (hn : n ≤ 300) : gS (f + 3) doN (gdS n) = some (gdS (n + 1)) := by
  have hl := rq_len n
  have e1 : gE (f + 1) oneN (gdS n) = some ⟨rq n ++ [⟨1, 0, 0⟩], [some 1], [], 0⟩ := by
    rw [gE, if_pos (by decide), show oneN.n = 1 from rfl, give_one]
    exact gG_ok (ok_of _ _ (by rw [List.length_append, hl]; show 4 * n + 1 ≤ _; omega) rfl)
  have e2 : gE (f + 1) oneN ⟨rq n ++ [⟨1, 0, 0⟩], [some 1], [], 0⟩ = some ⟨rq n ++ [⟨1, 0, 0⟩] ++ [⟨1, 0, 0⟩], [some 1], [], 0⟩ := by
    rw [gE, if_pos (by decide)]
    exact gG_ok (ok_of _ _ (by rw [List.length_append, List.length_append, hl]; show 4 * n + 1 + 1 ≤ _; omega) rfl)
  have e3 : gE (f + 2) ⟨11, 6, emptyB, 0, [oneN, oneN]⟩ (gdS n) = some ⟨rq n ++ [⟨1, 0, 0⟩] ++ [⟨1, 0, 0⟩] ++ [⟨5, 6, 0⟩], [some 1], [], 0⟩ := by
    rw [gE, if_neg (by decide), if_neg (by decide), if_pos (by decide), gEs, e1]
    simp only
    rw [gEs, e2]
    simp only
    rw [gEs]
    exact gG_ok (ok_of _ _ (by rw [List.length_append, List.length_append, List.length_append, hl]; show 4 * n + 1 + 1 + 1 ≤ _; omega) rfl)
  unfold doN
  rw [gS, if_neg (by decide), if_pos (by decide)]
  simp only
  rw [e3]
  simp only
  refine (gG_ok (ok_of _ _ (by rw [List.length_append, List.length_append, List.length_append, List.length_append, hl]; show 4 * n + 1 + 1 + 1 + 1 ≤ _; omega) rfl)).trans ?_
  simp only [gdS, rq, gdQ, List.append_assoc, List.cons_append, List.nil_append]
theorem gBl_do (f : Nat) : ∀ (n k : Nat), n + k ≤ 300 → gBl (gS (f + 3)) (List.replicate n doN) (gdS k) = some (gdS (n + k)) := by
  intro n
  induction n with
  | zero => intro k _; rw [Nat.zero_add]; rfl
  | succ n ih =>
    intro k hk
    rw [List.replicate_succ, gBl, if_neg (by decide), gS_do f k (by omega)]
    simp only
    rw [ih (k + 1) (by omega), show n + (k + 1) = n + 1 + k by omega]
/-- The place of nil among the constants; the constants; the code. -/
def gdZ (n : Nat) : Int := if n = 0 then 0 else 1
def gdK (n : Nat) : List (Option Int) := if n = 0 then [none] else [some 1, none]
def gdC (n : Nat) : List KI := rq n ++ [⟨1, gdZ n, 0⟩, ⟨10, 0, 0⟩]
theorem gFn_do (n : Nat) (hn : n ≤ 300) : gFn 10 (gdB n) [] 0 = some ⟨gdC n, gdK n, [], 0⟩ := by
  unfold gFn
  have e : gS 10 (gdB n) ⟨[], [], [], 0⟩ = some (gdS n) := by
    unfold gdB
    rw [show (10 : Nat) = 9 + 1 from rfl, gS, if_neg (by simp; omega), if_neg (show ¬ (10 : Int) = 9 by decide), if_neg (show ¬ (10 : Int) = 8 by decide), if_pos (show (10 : Int) = 10 by decide)]
    exact gBl_do 6 n 0 (by omega)
  rw [e]
  cases n with
  | zero => rfl
  | succ n =>
    simp only
    unfold gdC
    show some ((⟨rq (n + 1) ++ [⟨1, 1, 0⟩] ++ [⟨10, 0, 0⟩], [some 1, none], [], 0⟩ : GM)) = _
    rw [List.append_assoc]
    rfl
def gdF (n : Nat) : V.KF := ⟨⟨#[109, 97, 105, 110]⟩, 0, 0, (gdK n).map gcP, gdC n⟩
theorem gdC_len (n : Nat) : (gdC n).length = 4 * n + 2 := by unfold gdC; rw [List.length_append, rq_len]; rfl
theorem gdC_at (n j : Nat) (i : KI) (h : (gdC n)[j]? = some i) : (j < 4 * n ∧ gdQ[j % 4]? = some i) ∨ (j = 4 * n ∧ i = ⟨1, gdZ n, 0⟩) ∨ (j = 4 * n + 1 ∧ i = ⟨10, 0, 0⟩) := by
  unfold gdC at h
  by_cases hj : j < 4 * n
  · rw [List.getElem?_append_left (by rw [rq_len]; exact hj), rq_at n j hj] at h
    exact Or.inl ⟨hj, h⟩
  · rw [List.getElem?_append_right (by rw [rq_len]; omega), rq_len] at h
    match hd : j - 4 * n, h with
    | 0, h => exact Or.inr (Or.inl ⟨by omega, by simpa using h.symm⟩)
    | 1, h => exact Or.inr (Or.inr ⟨by omega, by simpa using h.symm⟩)
    | k + 2, h => simp at h
def gdHt (j : Nat) : Int := if j % 4 = 0 then 0 else if j % 4 = 2 then 2 else 1
theorem q_cases {j : Nat} {i : KI} (h : gdQ[j % 4]? = some i) : (j % 4 = 0 ∧ i = ⟨1, 0, 0⟩) ∨ (j % 4 = 1 ∧ i = ⟨1, 0, 0⟩) ∨ (j % 4 = 2 ∧ i = ⟨5, 6, 0⟩) ∨ (j % 4 = 3 ∧ i = ⟨4, 0, 0⟩) := by
  rcases (show j % 4 = 0 ∨ j % 4 = 1 ∨ j % 4 = 2 ∨ j % 4 = 3 by omega) with e | e | e | e <;> rw [e] at h <;> (obtain rfl := Option.some.inj h) <;> simp [e]
theorem gd_strt (n : Nat) : Strt (gdC n) gdHt := by
  have hlen := gdC_len n
  refine ⟨by omega, fun j hj => ?_, fun j hj => ?_, rfl, fun j hj => ?_, fun j i hi => ?_, fun j i hi => ?_⟩
  · obtain ⟨i, hi⟩ : ∃ i, (gdC n)[j]? = some i := ⟨_, List.getElem?_eq_getElem (by omega)⟩
    rw [V.kNext_at hi]
    rcases gdC_at n j i hi with ⟨h1, h2⟩ | ⟨h1, rfl⟩ | ⟨h1, rfl⟩
    · rcases q_cases h2 with ⟨_, rfl⟩ | ⟨_, rfl⟩ | ⟨_, rfl⟩ | ⟨_, rfl⟩ <;> rfl
    · rfl
    · omega
  · obtain ⟨i, hi⟩ : ∃ i, (gdC n)[j]? = some i := ⟨_, List.getElem?_eq_getElem (by omega)⟩
    rw [V.kNext_at hi]
    rcases gdC_at n j i hi with ⟨h1, h2⟩ | ⟨h1, rfl⟩ | ⟨h1, rfl⟩
    · omega
    · omega
    · rfl
  · unfold gdHt
    split
    · omega
    · split <;> omega
  · rcases gdC_at n j i hi with ⟨h1, h2⟩ | ⟨h1, rfl⟩ | ⟨h1, rfl⟩
    · rcases q_cases h2 with ⟨e, rfl⟩ | ⟨e, rfl⟩ | ⟨e, rfl⟩ | ⟨e, rfl⟩
      · have e2 : gdHt j = 0 := by unfold gdHt; rw [if_pos e]
        have e3 : gdHt (j + 1) = 1 := by unfold gdHt; rw [if_neg (by omega), if_neg (by omega)]
        rw [e2, e3]; exact ⟨by decide, fun _ => by decide⟩
      · have e2 : gdHt j = 1 := by unfold gdHt; rw [if_neg (by omega), if_neg (by omega)]
        have e3 : gdHt (j + 1) = 2 := by unfold gdHt; rw [if_neg (by omega), if_pos (by omega)]
        rw [e2, e3]; exact ⟨by decide, fun _ => by decide⟩
      · have e2 : gdHt j = 2 := by unfold gdHt; rw [if_neg (by omega), if_pos (by omega)]
        have e3 : gdHt (j + 1) = 1 := by unfold gdHt; rw [if_neg (by omega), if_neg (by omega)]
        rw [e2, e3]; exact ⟨by decide, fun _ => by decide⟩
      · have e2 : gdHt j = 1 := by unfold gdHt; rw [if_neg (by omega), if_neg (by omega)]
        have e3 : gdHt (j + 1) = 0 := by unfold gdHt; rw [if_pos (by omega)]
        rw [e2, e3]; exact ⟨by decide, fun _ => by decide⟩
    · have e2 : gdHt j = 0 := by unfold gdHt; rw [if_pos (by omega)]
      have e3 : gdHt (j + 1) = 1 := by unfold gdHt; rw [if_neg (by omega), if_neg (by omega)]
      rw [e2, e3]
      exact ⟨by show (0 : Int) ≤ 0 - 0; omega, fun _ => rfl⟩
    · have e2 : gdHt j = 1 := by unfold gdHt; rw [if_neg (by omega), if_neg (by omega)]
      rw [e2]
      exact ⟨by decide, fun _ => by omega⟩
  · rcases gdC_at n j i hi with ⟨h1, h2⟩ | ⟨h1, rfl⟩ | ⟨h1, rfl⟩
    · rcases q_cases h2 with ⟨e, rfl⟩ | ⟨e, rfl⟩ | ⟨e, rfl⟩ | ⟨e, rfl⟩ <;> decide
    · exact ⟨by show ¬ (1 : Int) = 12; decide, by show ¬ (1 : Int) = 9; decide, by show ¬ (1 : Int) = 7; decide, by show ¬ (1 : Int) = 8; decide⟩
    · decide
theorem gdC_mem {n : Nat} {i : KI} (h : i ∈ gdC n) : (0 < n ∧ (i = ⟨1, 0, 0⟩ ∨ i = ⟨5, 6, 0⟩ ∨ i = ⟨4, 0, 0⟩)) ∨ i = ⟨1, gdZ n, 0⟩ ∨ i = ⟨10, 0, 0⟩ := by
  obtain ⟨j, hj⟩ := List.getElem?_of_mem h
  rcases gdC_at n j i hj with ⟨h1, h2⟩ | ⟨h1, rfl⟩ | ⟨h1, rfl⟩
  · rcases q_cases h2 with ⟨e, rfl⟩ | ⟨e, rfl⟩ | ⟨e, rfl⟩ | ⟨e, rfl⟩
    · exact Or.inl ⟨by omega, Or.inl rfl⟩
    · exact Or.inl ⟨by omega, Or.inl rfl⟩
    · exact Or.inl ⟨by omega, Or.inr (Or.inl rfl)⟩
    · exact Or.inl ⟨by omega, Or.inr (Or.inr rfl)⟩
  · exact Or.inr (Or.inl rfl)
  · exact Or.inr (Or.inr rfl)
theorem gd_stand (n : Nat) : ∀ i ∈ gdC n, V.kStand [gdF n] (gdF n) i = true := by
  intro i hi
  have hz : gdZ n = if n = 0 then 0 else 1 := rfl
  have hcs : (gdF n).cs.length = if n = 0 then 1 else 2 := by show ((gdK n).map gcP).length = _; unfold gdK; split <;> rfl
  have hone : ∀ z : Int, (0 ≤ z ∧ z < ((gdF n).cs.length : Int)) → V.kStand [gdF n] (gdF n) ⟨1, z, 0⟩ = true := fun z h => by
    show (true && V.kPl z ((gdF n).cs.length : Int)) = true
    unfold V.kPl
    rw [decide_eq_true h]
    rfl
  rcases gdC_mem hi with ⟨h0, rfl | rfl | rfl⟩ | rfl | rfl
  · exact hone 0 (by rw [hcs, if_neg (show ¬ n = 0 by omega)]; decide)
  · rfl
  · rfl
  · refine hone (gdZ n) ?_
    rw [hcs, hz]
    by_cases h : n = 0
    · rw [if_pos h, if_pos h]; decide
    · rw [if_neg h, if_neg h]; decide
  · rfl
theorem gd_form (n : Nat) (hn : n ≤ 249) : V.kForm [gdF n] 0 = true := by
  have hok : (gdF n).cs.all V.okv = true := by show ((gdK n).map gcP).all V.okv = true; unfold gdK; split <;> kernel_rfl
  have hst : (gdF n).code.all (V.kStand [gdF n] (gdF n)) = true := List.all_eq_true.2 (gd_stand n)
  have hlen : (gdF n).code.length = 4 * n + 2 := gdC_len n
  unfold V.kForm
  show (V.kPl 0 1 && (V.kPl 0 9 && (decide ((0 : Int) ≤ 0) && (decide ((0 : Int) ≤ 64) && (decide (0 < (gdF n).code.length ∧ (gdF n).code.length ≤ 1000) && ((gdF n).cs.all V.okv && (gdF n).code.all (V.kStand [gdF n] (gdF n)))))))) = true
  rw [hok, hst, decide_eq_true (show 0 < (gdF n).code.length ∧ (gdF n).code.length ≤ 1000 by omega)]
  rfl
theorem gd_noform (n : Nat) (hn : 250 ≤ n) : V.kForm [gdF n] 0 = false := by
  have hlen : (gdF n).code.length = 4 * n + 2 := gdC_len n
  unfold V.kForm
  show (V.kPl 0 1 && (V.kPl 0 9 && (decide ((0 : Int) ≤ 0) && (decide ((0 : Int) ≤ 64) && (decide (0 < (gdF n).code.length ∧ (gdF n).code.length ≤ 1000) && ((gdF n).cs.all V.okv && (gdF n).code.all (V.kStand [gdF n] (gdF n)))))))) = false
  rw [decide_eq_false (show ¬ (0 < (gdF n).code.length ∧ (gdF n).code.length ≤ 1000) by omega)]
  rfl
theorem gd_kf (n : Nat) (hn : n ≤ 300) : [gdF n].all kfOk = true := by
  have hlen : (gdF n).code.length = 4 * n + 2 := gdC_len n
  have hcs : (gdF n).cs.length ≤ 2 := by show ((gdK n).map gcP).length ≤ 2; unfold gdK; split <;> decide
  rw [List.all_cons, List.all_nil, Bool.and_true]
  unfold kfOk
  rw [decide_eq_true (show (gdF n).cs.length ≤ 1000000 by omega), decide_eq_true (show (gdF n).code.length ≤ 1000000 by omega), Bool.true_and, Bool.true_and]
  refine List.all_eq_true.2 fun i hi => ?_
  have hi : i ∈ gdC n := hi
  have hz : gdZ n = 0 ∨ gdZ n = 1 := by unfold gdZ; split <;> simp
  rcases gdC_mem hi with ⟨h0, rfl | rfl | rfl⟩ | rfl | rfl
  · decide
  · decide
  · decide
  · rcases hz with h | h <;> rw [h] <;> decide
  · decide
theorem gd_prg (n : Nat) (hn : n ≤ 300) : gPrg 10 2000 [gdM n] [⟨0, [], []⟩] = if n ≤ 249 then some (0, [gdF n], 0) else some (5, [], 0) := by
  unfold gPrg
  have e0 : gFns 10 [gdM n] [⟨0, [], []⟩] 0 [] = if n ≤ 250 then some (some [gdF n]) else some none := by
    rw [gFns, show (gdM n).bd = gdB n from rfl, can_blk n hn]
    by_cases h : n ≤ 250
    · rw [decide_eq_true (by omega), if_pos h]
      simp only
      rw [gFn_do n hn]
      simp only
      rw [gFns]
      rfl
    · rw [decide_eq_false (by omega), if_neg h]
  rw [e0]
  by_cases h : n ≤ 250
  · rw [if_pos h]
    simp only
    rw [if_pos (gd_kf n hn)]
    by_cases h2 : n ≤ 249
    · obtain ⟨v, hv⟩ := virt_st (gdF n) rfl (gd_strt n) 2000 (by show (gdC n).length + 1 ≤ 2000; rw [gdC_len]; omega) (gd_form n h2) rfl (by show (gdC n).length ≤ 1000; rw [gdC_len]; omega)
      have e1 : gGreat 2000 [gdF n] [gdF n].length 0 = some false := by
        show gGreat 2000 [gdF n] (0 + 1) 0 = _
        rw [gGreat, show V.kVirt [gdF n] ((0 : Nat) : Int) 2000 = some (v, 0) from hv]
        rfl
      rw [e1, if_pos h2]
      rfl
    · have e1 : gGreat 2000 [gdF n] [gdF n].length 0 = some true := by
        show gGreat 2000 [gdF n] (0 + 1) 0 = _
        have e2 : V.kVirt [gdF n] ((0 : Nat) : Int) 2000 = some (0, 3) := by
          unfold V.kVirt V.kHgt
          rw [if_neg (by rw [show ((0 : Nat) : Int) = 0 from rfl, gd_noform n (by omega)]; decide)]
          rfl
        rw [gGreat, e2]
        rfl
      rw [e1, if_neg h2]
  · rw [if_neg h, if_neg (by omega)]
theorem gd_gsrc (n : Nat) (hn : n ≤ 300) : gSrc ⟨(gdT n).toArray⟩ 5000 100000 10 2000 = if n ≤ 249 then some (0, 0, [gdF n], 0) else some (5, 0, [], 0) := by
  unfold gSrc
  rw [(gd_src n hn).2]
  simp only
  rw [if_pos trivial, gd_prg n hn]
  by_cases h : n ≤ 249
  · rw [if_pos h, if_pos h]
  · rw [if_neg h, if_neg h]

end Go.Proofs.YtlgdjeiendmniaaGreatDoor
