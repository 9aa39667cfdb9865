/- The program that ScopeBlocks writes, read. · What the checker tells of ScopeBlocks' program. · ScopeBlocks: what the law knows while it writes its program, act by act. · What it is that a world holds what is known while a function is gone through; what stays so. -/
import Derived.Test.YtjeledllejlpcaaGreatDoorZs22
import Derived.Test.YtjeledllejlpcaaGreatDoorZs21
set_option linter.unusedSimpArgs false
set_option linter.unusedVariables false
set_option maxRecDepth 10000

namespace Go.Proofs.YtjeledllejlpcaaGreatDoor
open Go.RowKit

def wHead : List Wd := [wFn, wMain, wOp, wCl, wLb]
/-- The text: fn main ( ) { .. }. -/
def sbT (l : List BS) : List UInt8 := wTxt (wHead ++ bWL l) ++ [125]
def mainF (l : List BS) : PFn := ⟨⟨#[109, 97, 105, 110]⟩, [], ⟨10, 0, emptyB, 0, bNL l⟩⟩

mutual
theorem bW_ok (F : Nat) : ∀ (b : BS), ∀ w ∈ bW b, w.Ok F
  | .lt => by
    rw [bW]
    intro w hw
    simp at hw
    rcases hw with rfl | rfl | rfl | rfl | rfl
    · exact wLet_ok F
    · exact wX_ok F
    · exact wEq_ok F
    · exact wOne_ok F
    · exact wSe_ok F
  | .us => by
    rw [bW]
    intro w hw
    simp at hw
    rcases hw with rfl | rfl | rfl
    · exact wPr_ok F
    · exact wX_ok F
    · exact wSe_ok F
  | .fi l => by
    rw [bW]
    intro w hw
    simp at hw
    rcases hw with rfl | rfl | rfl | hw | rfl
    · exact wIf_ok F
    · exact wOne_ok F
    · exact wLb_ok F
    · exact bWL_ok F l w hw
    · exact wRb_ok F
theorem bWL_ok (F : Nat) : ∀ (l : List BS), ∀ w ∈ bWL l, w.Ok F
  | [] => by rw [bWL]; intro w hw; cases hw
  | b :: l => by
    rw [bWL]
    intro w hw
    rcases List.mem_append.1 hw with hw | hw
    · exact bW_ok F b w hw
    · exact bWL_ok F l w hw
end
theorem head_ok (F : Nat) (l : List BS) : ∀ w ∈ wHead ++ bWL l, w.Ok F := by
  intro w hw
  rcases List.mem_append.1 hw with hw | hw
  · simp [wHead] at hw
    rcases hw with rfl | rfl | rfl | rfl | rfl
    · exact wFn_ok F
    · exact wMain_ok F
    · exact wOp_ok F
    · exact wCl_ok F
    · exact wLb_ok F
  · exact bWL_ok F l w hw
theorem wTxt_len : ∀ (ws : List Wd), ws.length ≤ (wTxt ws).length
  | [] => Nat.le_refl _
  | w :: ws => by rw [wTxt]; have := wTxt_len ws; simp; omega

theorem sb_beg (l : List BS) (hs : (sbT l).length ≤ 4000) : ∃ o, begP ⟨(sbT l).toArray⟩ = ⟨tksAt (wHead ++ bWL l) 0 ++ [wRb.tk o], 0, 0, 0⟩ := by
  have hsz : ByteArray.size ⟨(sbT l).toArray⟩ = (sbT l).length := by show (sbT l).toArray.size = _; simp
  have hlen : (sbT l).length = (wTxt (wHead ++ bWL l)).length + 1 := by unfold sbT; simp
  have hle := wTxt_len (wHead ++ bWL l)
  have key : lexF (ByteArray.size ⟨(sbT l).toArray⟩ + 1) ⟨(sbT l).toArray⟩ 0 = (tksAt (wHead ++ bWL l) 0 ++ [wRb.tk (0 + (wTxt (wHead ++ bWL l)).length)], none) := by
    rw [lexF_L _ _ _ (Nat.zero_le _), L_mk, List.drop_zero, hsz, hlen]
    obtain ⟨f, hf⟩ : ∃ f, (wTxt (wHead ++ bWL l)).length + 1 + 1 = f + 1 + 1 + (wHead ++ bWL l).length := ⟨(wTxt (wHead ++ bWL l)).length - (wHead ++ bWL l).length, by omega⟩
    rw [hf]
    show lexL _ (f + 1 + 1 + (wHead ++ bWL l).length) (wTxt (wHead ++ bWL l) ++ [125]) 0 = _
    rw [lex_words (wHead ++ bWL l) (f + 1) [125] 0 (head_ok _ l), lex_shut]
    rfl
  refine ⟨0 + (wTxt (wHead ++ bWL l)).length, ?_⟩
  rw [begP_good (by rw [hsz]; exact hs) (by rw [key]), key]

theorem sb_read (l : List BS) (hs : (sbT l).length ≤ 4000) (hd : bDL l ≤ 23) (hc : bCL l ≤ 4000) : rdP ⟨(sbT l).toArray⟩ 5000 = ([mainF l], ⟨[], 0, 0, 0⟩) := by
  obtain ⟨o, hb⟩ := sb_beg l hs
  unfold rdP
  rw [hb, tks_append, List.append_assoc]
  generalize ByteArray.size ⟨(sbT l).toArray⟩ = len
  have hblk : ∀ (o1 : Nat) (A : Nat), (stsP len 5000 5000).2.1 ⟨wLb.tk o1 :: (tksAt (bWL l) A ++ [wRb.tk o]), 0, 0, 0⟩ = (⟨10, 0, emptyB, 0, bNL l⟩, ⟨[], 0, 0, 0⟩) := by
    intro o1 A
    rw [show (5000 : Nat) = 4999 + 1 from rfl, stsP]
    simp only
    rw [blk_open len _ _ _ 0 0 _ (by decide) (by decide)]
    have h9 := blk_read len 4998 (bCL l) l (Nat.le_refl _) 4999 5000 [] A o (0 + 1) 0 [] (by decide) (by omega) (by omega) (by omega)
    rw [show (4999 + 1 : Nat) = 5000 from rfl]
    rw [show (4998 + 2 : Nat) = 5000 from rfl] at h9
    rw [h9]
    simp only
    rw [shut_blk len o 0 0 [] (by decide) (by decide)]
    rfl
  have hfun : funP len (stsP len 5000 5000).2.1 5000 ⟨tksAt wHead 0 ++ (tksAt (bWL l) (0 + (wTxt wHead).length) ++ [wRb.tk o]), 0, 0, 0⟩ = (mainF l, ⟨[], 0, 0, 0⟩) := by
    have e : ∀ (bl : Rdr) (ts : List Tk), funP len bl 5000 ⟨tksAt wHead 0 ++ ts, 0, 0, 0⟩ = (⟨⟨#[109, 97, 105, 110]⟩, [], (bl ⟨wLb.tk 12 :: ts, 0, 0, 0⟩).1⟩, (bl ⟨wLb.tk 12 :: ts, 0, 0, 0⟩).2) := by
      intro bl ts
      kernel_rfl
    rw [e, hblk]
    rfl
  rw [show funsP len (stsP len 5000 5000).2.1 5000 5000 = funsP len (stsP len 5000 5000).2.1 5000 (4999 + 1) from rfl, funsP, if_neg (by simp [wHead, tksAt]; omega), hfun]
  rfl

end Go.Proofs.YtjeledllejlpcaaGreatDoor

namespace Go.Proofs.YtjeledllejlpcaaGreatDoor
open Go.RowKit Go.Maps

/-- x is seen; lets; places told; a fault. -/
structure BE where
  sn : Bool
  lets : Nat
  sls : Nat
  bad : Bool
mutual
def bE : BS → BE → BE
  | .lt, a => if a.bad then a else if a.sn then ⟨a.sn, a.lets, a.sls, true⟩ else ⟨true, a.lets + 1, a.sls + 1, false⟩
  | .us, a => if a.bad then a else if a.sn then ⟨a.sn, a.lets, a.sls + 1, false⟩ else ⟨a.sn, a.lets, a.sls, true⟩
  | .fi l, a => if a.bad then a else ⟨a.sn, (bEL l a).lets, (bEL l a).sls, (bEL l a).bad⟩
def bEL : List BS → BE → BE
  | [], a => a
  | b :: l, a => bEL l (bE b a)
end
theorem bE_bad (b : BS) (a : BE) (h : a.bad = true) : bE b a = a := by cases b <;> rw [bE, if_pos h]
theorem bEL_bad : ∀ (l : List BS) (a : BE), a.bad = true → bEL l a = a
  | [], a, h => by rw [bEL]
  | b :: l, a, h => by rw [bEL, bE_bad b a h, bEL_bad l a h]
theorem bEL_append : ∀ (l k : List BS) (a : BE), bEL (l ++ k) a = bEL k (bEL l a)
  | [], k, a => by rw [List.nil_append, bEL]
  | b :: l, k, a => by rw [List.cons_append, bEL, bEL, bEL_append l k]
theorem bE_sn (b : BS) (a : BE) (h : a.sn = true) : (bE b a).sn = true := by
  cases b <;> rw [bE]
  · split
    · exact h
    · first | exact h | (rw [if_pos h]; exact h)
  · split
    · exact h
    · first | exact h | (rw [if_pos h]; exact h)
  · split
    · exact h
    · exact h
theorem bEL_sn : ∀ (l : List BS) (a : BE), a.sn = true → (bEL l a).sn = true
  | [], a, h => by rw [bEL]; exact h
  | b :: l, a, h => by rw [bEL]; exact bEL_sn l _ (bE_sn b a h)

structure RB (d : DK) (a : BE) : Prop where
  e : d.e = if a.bad then 11 else 0
  see1 : a.bad = false → a.sn = true → ∃ v, d.see = [(xB, v)]
  see0 : a.bad = false → a.sn = false → d.see = []
  lc : a.bad = false → d.lc = a.lets
  sl : a.bad = false → d.sl.length = a.sls
theorem RB.e0 {d : DK} {a : BE} (h : RB d a) (hb : a.bad = false) : d.e = 0 := by rw [h.e, hb]; rfl
theorem RB.e1 {d : DK} {a : BE} (h : RB d a) (hb : a.bad = true) : d.e ≠ 0 := by rw [h.e, hb]; decide

theorem dW_one (fs : List PFn) (F : Nat) (d : DK) : dW fs F oneN d = d := by
  cases F with
  | zero => rfl
  | succ F =>
    rw [dW]
    split
    · rfl
    · rfl
theorem dW_x (fs : List PFn) (F : Nat) (d : DK) (h : d.e = 0) : dW fs (F + 1) ⟨19, 0, xB, 0, []⟩ d = d.use xB := by
  rw [dW, if_neg (by simp [h])]
  rfl
theorem fnd_x (v : Int) : fnd [(xB, v)] xB = some v := by
  unfold fnd
  rw [List.reverse_singleton, lkp_c, if_pos (by decide)]
theorem fnd_no : fnd [] xB = none := rfl

mutual
theorem ev_one (fs : List PFn) : ∀ (b : BS) (F : Nat) (d : DK) (a : BE), nsz (bN b) ≤ F → RB d a → RB (dW fs F (bN b) d) (bE b a)
  | .lt, F, d, a, hF, h => by
    cases hb : a.bad
    case true => rw [bE_bad _ a hb, dW_bad fs F _ d (h.e1 hb)]; exact h
    have he := h.e0 hb
    obtain ⟨F, rfl⟩ : ∃ k, F = k + 1 := ⟨F - 1, by have := nsz_pos (bN .lt); omega⟩
    have e : dW fs (F + 1) (bN .lt) d = d.letD xB := by
      rw [bN, dW, if_neg (by simp [he])]
      show dEnd fs 1 xB 1 d.see.length (dW fs F oneN d) = _
      rw [dW_one]
      rfl
    rw [e, bE, hb, if_neg (by decide)]
    unfold DK.letD
    rw [if_neg (by simp [he])]
    cases hs : a.sn
    · have h0 := h.see0 hb hs
      rw [if_neg (show ¬ (fnd d.see xB).isSome = true by rw [h0, fnd_no]; decide), if_neg (show ¬ (false = true) by decide)]
      exact ⟨he, fun _ _ => ⟨d.lc, by show d.see ++ [(xB, d.lc)] = _; rw [h0]; rfl⟩, fun _ h9 => by (cases h9), fun _ => by show d.lc + 1 = _; rw [h.lc hb]; simp, fun _ => by show (d.sl ++ [d.lc]).length = _; rw [List.length_append, h.sl hb]; rfl⟩
    · obtain ⟨v, h1⟩ := h.see1 hb hs
      rw [if_pos (show (fnd d.see xB).isSome = true by rw [h1, fnd_x]; rfl), if_pos rfl]
      exact ⟨rfl, fun h9 => by (cases h9), fun h9 => by (cases h9), fun h9 => by (cases h9), fun h9 => by (cases h9)⟩
  | .us, F, d, a, hF, h => by
    cases hb : a.bad
    case true => rw [bE_bad _ a hb, dW_bad fs F _ d (h.e1 hb)]; exact h
    have he := h.e0 hb
    rw [bN, nsz, nszL, nszL, nsz, nszL] at hF
    obtain ⟨F, rfl⟩ : ∃ k, F = k + 2 := ⟨F - 2, by omega⟩
    have e : dW fs (F + 2) (bN .us) d = d.use xB := by
      rw [bN, dW, if_neg (by simp [he])]
      show dW fs (F + 1) ⟨19, 0, xB, 0, []⟩ d = _
      rw [dW_x fs F d he]
    rw [e, bE, hb, if_neg (by decide)]
    unfold DK.use
    cases hs : a.sn
    · have h0 := h.see0 hb hs
      have hf : fnd d.see xB = none := by rw [h0, fnd_no]
      rw [hf, if_neg (show ¬ (false = true) by decide)]
      exact ⟨rfl, fun h9 => by (cases h9), fun h9 => by (cases h9), fun h9 => by (cases h9), fun h9 => by (cases h9)⟩
    · obtain ⟨v, h1⟩ := h.see1 hb hs
      have hf : fnd d.see xB = some v := by rw [h1, fnd_x]
      rw [hf, if_pos rfl]
      exact ⟨he, fun _ _ => ⟨v, by show d.see = _; exact h1⟩, fun _ h9 => by (cases h9), fun _ => h.lc hb, fun _ => by show (d.sl ++ [v]).length = _; rw [List.length_append, h.sl hb]; rfl⟩
  | .fi l, F, d, a, hF, h => by
    cases hb : a.bad
    case true => rw [bE_bad _ a hb, dW_bad fs F _ d (h.e1 hb)]; exact h
    have he := h.e0 hb
    rw [bN, nsz, nszL, nszL, nszL, nsz] at hF
    obtain ⟨F, rfl⟩ : ∃ k, F = k + 2 := ⟨F - 2, by omega⟩
    have e : dW fs (F + 2) (bN (.fi l)) d = { (bNL l).foldl (fun d x => dW fs F x d) d with see := ((bNL l).foldl (fun d x => dW fs F x d) d).see.take d.see.length } := by
      rw [bN, dW, if_neg (by simp [he])]
      show dW fs (F + 1) ⟨10, 0, emptyB, 0, bNL l⟩ (dW fs (F + 1) oneN d) = _
      rw [dW_one, dW, if_neg (by simp [he])]
      rfl
    have r := ev_all fs l F d a (by omega) h
    rw [e, bE, hb, if_neg (by decide)]
    refine ⟨r.e, fun h8 h9 => ?_, fun h8 h9 => ?_, fun h8 => r.lc h8, fun h8 => r.sl h8⟩
    · obtain ⟨v, h1⟩ := h.see1 hb h9
      obtain ⟨v2, h2⟩ := r.see1 h8 (bEL_sn l a h9)
      exact ⟨v2, by show List.take d.see.length _ = _; rw [h1, h2]; rfl⟩
    · have h0 := h.see0 hb h9
      show List.take d.see.length _ = _
      rw [h0]
      rfl
theorem ev_all (fs : List PFn) : ∀ (l : List BS) (F : Nat) (d : DK) (a : BE), nszL (bNL l) ≤ F → RB d a → RB ((bNL l).foldl (fun d x => dW fs F x d) d) (bEL l a)
  | [], F, d, a, hF, h => by rw [bNL, bEL]; exact h
  | b :: l, F, d, a, hF, h => by
    rw [bNL, nszL] at hF
    rw [bNL, bEL, List.foldl_cons]
    exact ev_all fs l F _ _ (by omega) (ev_one fs b F d a (by omega) h)
end

/-- What the document's checker tells of the program. -/
theorem sb_doc (l : List BS) : ((bEL l ⟨false, 0, 0, false⟩).bad = true → (docP [mainF l]).2 = 11) ∧
    ((bEL l ⟨false, 0, 0, false⟩).bad = false → (bEL l ⟨false, 0, 0, false⟩).lets ≤ 64 → ∃ p : PSc, docP [mainF l] = ([p], 0) ∧ p.lc = (bEL l ⟨false, 0, 0, false⟩).lets ∧ p.sl.length = (bEL l ⟨false, 0, 0, false⟩).sls) := by
  have hz : nsz (mainF l).bd = 1 + nszL (bNL l) := by show nsz ⟨10, 0, emptyB, 0, bNL l⟩ = _; rw [nsz]
  have r0 : RB ⟨[], 0, 0, [], [], 0⟩ ⟨false, 0, 0, false⟩ := ⟨rfl, fun _ h => by (cases h), fun _ _ => rfl, fun _ => rfl, fun _ => rfl⟩
  have r := ev_all [mainF l] l (nszL (bNL l)) ⟨[], 0, 0, [], [], 0⟩ ⟨false, 0, 0, false⟩ (Nat.le_refl _) r0
  obtain ⟨D, hD⟩ : ∃ D, D = (bNL l).foldl (fun d x => dW [mainF l] (nszL (bNL l)) x d) ⟨[], 0, 0, [], [], 0⟩ := ⟨_, rfl⟩
  rw [← hD] at r
  have e : dW [mainF l] (nsz (mainF l).bd) (mainF l).bd ⟨[], 0, 0, [], [], 0⟩ = { D with see := D.see.take 0 } := by
    rw [hz, Nat.add_comm, hD]
    show dW [mainF l] (nszL (bNL l) + 1) ⟨10, 0, emptyB, 0, bNL l⟩ _ = _
    rw [dW, if_neg (by simp)]
    rfl
  have hfn : dFn [mainF l] (mainF l) = if D.e ≠ 0 then (⟨0, [], []⟩, D.e) else if 64 < D.lc then (⟨0, [], []⟩, 65) else (⟨D.lc, D.sl, D.cl⟩, 0) := by
    have hp : prmD (mainF l).ps 0 [] = some [] := rfl
    unfold dFn
    rw [hp]
    simp only
    rw [show ((mainF l).ps.length : Int) = 0 from rfl, e]
  have hn : nums [mainF l] 0 [] = some [(⟨#[109, 97, 105, 110]⟩, 0)] := by kernel_rfl
  have hm : mainD [mainF l] = 0 := by kernel_rfl
  refine ⟨fun hb => ?_, fun hb hl => ?_⟩
  · have he : D.e = 11 := by rw [r.e, hb]; rfl
    have hf2 : (dFn [mainF l] (mainF l)).2 = 11 := by rw [hfn, if_pos (by rw [he]; decide)]; exact he
    unfold docP
    rw [hn]
    simp only
    have hd : (dChk [mainF l] [mainF l] []).2 = 11 := by rw [dChk, if_pos (by rw [hf2]; decide)]; exact hf2
    rw [if_pos (by rw [hd]; decide)]
    exact hd
  · have he : D.e = 0 := r.e0 hb
    have hlc := r.lc hb
    have hf2 : dFn [mainF l] (mainF l) = (⟨D.lc, D.sl, D.cl⟩, 0) := by rw [hfn, if_neg (by simp [he]), if_neg (by omega)]
    refine ⟨⟨D.lc, D.sl, D.cl⟩, ?_, hlc, r.sl hb⟩
    unfold docP
    rw [hn]
    simp only
    have hd : dChk [mainF l] [mainF l] [] = ([⟨D.lc, D.sl, D.cl⟩], 0) := by rw [dChk, hf2, if_neg (by simp), dChk]; rfl
    rw [hd, hm]
    rfl

end Go.Proofs.YtjeledllejlpcaaGreatDoor

namespace Go.Proofs.YtjeledllejlpcaaGreatDoor
open Go.RowKit Go.Maps

def a0 : BE := ⟨false, 0, 0, false⟩
/-- What is known behind the blocks that are still open. -/
def stO : List (List BS) → BE
  | [] => a0
  | l :: out => bEL l (stO out)
def openW : List (List BS) → List Wd
  | [] => []
  | l :: out => openW out ++ (bWL l ++ [wIf, wOne, wLb])
/-- All blocks shut. -/
def shutZ : List BS → List (List BS) → List BS
  | cur, [] => cur
  | cur, l :: out => shutZ (l ++ [.fi cur]) out
theorem bWL_one (b : BS) : bWL [b] = bW b := by rw [bWL, bWL, List.append_nil]
theorem shut_words : ∀ (out : List (List BS)) (cur : List BS), openW out ++ bWL cur ++ List.replicate out.length wRb = bWL (shutZ cur out)
  | [], cur => by simp [openW, shutZ]
  | l :: out, cur => by
    rw [shutZ, ← shut_words out, openW, bWL_append, bWL_one, bW, List.length_cons, List.replicate_succ]
    simp [List.append_assoc]
theorem bE_fi (l : List BS) (a : BE) (h : a.bad = false) : bE (.fi l) a = ⟨a.sn, (bEL l a).lets, (bEL l a).sls, (bEL l a).bad⟩ := by rw [bE, h, if_neg (by decide)]
theorem bEL_one (b : BS) (a : BE) : bEL [b] a = bE b a := by rw [bEL, bEL]
/-- Blocks that are shut change nothing but what is seen. -/
theorem fi_counts (cur : List BS) (a : BE) : (bE (.fi cur) a).lets = (bEL cur a).lets ∧ (bE (.fi cur) a).sls = (bEL cur a).sls ∧ (bE (.fi cur) a).bad = (bEL cur a).bad := by
  cases h : a.bad
  · rw [bE_fi cur a h]; exact ⟨rfl, rfl, rfl⟩
  · rw [bE_bad _ a h, bEL_bad _ a h]; exact ⟨rfl, rfl, rfl⟩
theorem shut_ev : ∀ (out : List (List BS)) (cur : List BS), (bEL (shutZ cur out) a0).lets = (bEL cur (stO out)).lets ∧ (bEL (shutZ cur out) a0).sls = (bEL cur (stO out)).sls ∧ (bEL (shutZ cur out) a0).bad = (bEL cur (stO out)).bad
  | [], cur => by rw [shutZ, stO]; exact ⟨rfl, rfl, rfl⟩
  | l :: out, cur => by
    rw [shutZ, stO]
    obtain ⟨h1, h2, h3⟩ := shut_ev out (l ++ [.fi cur])
    rw [h1, h2, h3, bEL_append, bEL_one]
    exact fi_counts cur _

theorem bDL_append : ∀ (a b : List BS), bDL (a ++ b) = max (bDL a) (bDL b)
  | [], b => by rw [List.nil_append, bDL]; omega
  | x :: a, b => by rw [List.cons_append, bDL, bDL, bDL_append a b]; omega
theorem bCL_append : ∀ (a b : List BS), bCL (a ++ b) = bCL a + bCL b
  | [], b => by rw [List.nil_append, bCL]; omega
  | x :: a, b => by rw [List.cons_append, bCL, bCL, bCL_append a b]; omega
def dzO : List (List BS) → Prop
  | [] => True
  | l :: out => bDL l + out.length ≤ 15 ∧ dzO out
def czO : List (List BS) → Nat
  | [] => 0
  | l :: out => 1 + bCL l + czO out
theorem shut_deep : ∀ (out : List (List BS)) (cur : List BS), bDL cur + out.length ≤ 15 → dzO out → bDL (shutZ cur out) ≤ 15
  | [], cur, h, _ => by rw [shutZ]; simpa using h
  | l :: out, cur, h, hz => by
    rw [shutZ]
    rw [List.length_cons] at h
    refine shut_deep out _ ?_ hz.2
    have h1 := hz.1
    rw [bDL_append, bDL, bDL, bD]
    omega
theorem shut_count : ∀ (out : List (List BS)) (cur : List BS), bCL (shutZ cur out) = bCL cur + czO out
  | [], cur => by rw [shutZ, czO]; omega
  | l :: out, cur => by
    rw [shutZ, shut_count out, czO, bCL_append, bCL, bCL, bC]
    omega

/-- The flag of each open block: was x seen ahead of it? -/
def flO (d : Nat) : List (List BS) → Prop
  | [] => True
  | l :: out => (stO (l :: out)).sn = decide (d < out.length + 1) ∧ flO d out
theorem flO_not : ∀ (out : List (List BS)) (d : Nat), (stO out).sn = false → out.length ≤ d → flO d out
  | [], d, h, hd => trivial
  | l :: out, d, h, hd => by
    rw [List.length_cons] at hd
    have h2 : (stO out).sn = false := by
      cases h3 : (stO out).sn
      · rfl
      · rw [stO, bEL_sn l _ h3] at h; cases h
    exact ⟨by rw [h, eq_comm, decide_eq_false_iff_not]; omega, flO_not out d h2 (by omega)⟩

/-- What the law knows: the depths at which x is, lets, uses. -/
structure ZI (i : Nat) (cur : List BS) (out : List (List BS)) (seen : List Int) (lets uses : Nat) (good : Bool) : Prop where
  bad : (bEL cur (stO out)).bad = !good
  hlt : good = true → (bEL cur (stO out)).lets = lets
  sls : good = true → (bEL cur (stO out)).sls = lets + uses
  sn : good = true → ((bEL cur (stO out)).sn = false ∧ seen = []) ∨ ((bEL cur (stO out)).sn = true ∧ ∃ d : Nat, seen = [(d : Int)] ∧ d ≤ out.length ∧ flO d out)
  deep : bDL cur + out.length ≤ 15
  dz : dzO out
  cnt : bCL cur + czO out ≤ i
  lb : lets ≤ i
  ub : uses ≤ i
theorem ZI.start : ZI 0 [] [] [] 0 0 true := ⟨rfl, fun _ => rfl, fun _ => rfl, fun _ => Or.inl ⟨rfl, rfl⟩, by rw [bDL]; decide, trivial, by rw [bCL, czO]; decide, Nat.le_refl _, Nat.le_refl _⟩
theorem ZI.skip {i : Nat} {cur : List BS} {out : List (List BS)} {seen : List Int} {lets uses : Nat} {good : Bool} (h : ZI i cur out seen lets uses good) : ZI (i + 1) cur out seen lets uses good := ⟨h.bad, h.hlt, h.sls, h.sn, h.deep, h.dz, by have := h.cnt; omega, by have := h.lb; omega, by have := h.ub; omega⟩
theorem ZI.open {i : Nat} {cur : List BS} {out : List (List BS)} {seen : List Int} {lets uses : Nat} (h : ZI i cur out seen lets uses true) (hd : out.length < 15) : ZI (i + 1) [] (cur :: out) seen lets uses true := by
  have e : bEL [] (stO (cur :: out)) = bEL cur (stO out) := by rw [bEL, stO]
  refine ⟨by rw [e]; exact h.bad, by rw [e]; exact h.hlt, by rw [e]; exact h.sls, fun _ => ?_, by rw [bDL, List.length_cons]; omega, ⟨h.deep, h.dz⟩, by rw [bCL, czO]; have := h.cnt; omega, by have := h.lb; omega, by have := h.ub; omega⟩
  rw [e]
  rcases h.sn rfl with h1 | ⟨h1, d, h2, h3, h4⟩
  · exact Or.inl h1
  · exact Or.inr ⟨h1, d, h2, by rw [List.length_cons]; omega, by rw [stO, h1, eq_comm, decide_eq_true_eq]; omega, h4⟩
theorem ZI.shut {i : Nat} {cur l : List BS} {out : List (List BS)} {seen : List Int} {lets uses : Nat} (h : ZI i cur (l :: out) seen lets uses true) :
    (seen = [] ∧ ZI (i + 1) (l ++ [.fi cur]) out [] lets uses true) ∨ (∃ d : Nat, seen = [(d : Int)] ∧ out.length < d ∧ ZI (i + 1) (l ++ [.fi cur]) out [] lets uses true) ∨ (∃ d : Nat, seen = [(d : Int)] ∧ d ≤ out.length ∧ ZI (i + 1) (l ++ [.fi cur]) out seen lets uses true) := by
  have hb : (bEL cur (stO (l :: out))).bad = false := h.bad
  have hsb : (stO (l :: out)).bad = false := by
    cases h9 : (stO (l :: out)).bad
    · rfl
    · rw [bEL_bad cur _ h9, h9] at hb; cases hb
  have e : bEL (l ++ [.fi cur]) (stO out) = ⟨(stO (l :: out)).sn, (bEL cur (stO (l :: out))).lets, (bEL cur (stO (l :: out))).sls, (bEL cur (stO (l :: out))).bad⟩ := by
    rw [bEL_append, bEL_one, ← stO, bE_fi _ _ hsb]
  have hdp : bDL (l ++ [.fi cur]) + out.length ≤ 15 := by
    have h1 := h.deep
    have h2 := h.dz.1
    rw [List.length_cons] at h1
    rw [bDL_append, bDL, bDL, bD]
    omega
  have hct : bCL (l ++ [.fi cur]) + czO out ≤ i + 1 := by
    have h1 := h.cnt
    rw [czO] at h1
    rw [bCL_append, bCL, bCL, bC]
    omega
  have mk : ∀ sn', (((stO (l :: out)).sn = false ∧ sn' = []) ∨ ((stO (l :: out)).sn = true ∧ ∃ d : Nat, sn' = [(d : Int)] ∧ d ≤ out.length ∧ flO d out)) → ZI (i + 1) (l ++ [.fi cur]) out sn' lets uses true := fun sn' hs =>
    ⟨by rw [e]; exact h.bad, by rw [e]; exact h.hlt, by rw [e]; exact h.sls, fun _ => by rw [e]; exact hs, hdp, h.dz.2, hct, by have := h.lb; omega, by have := h.ub; omega⟩
  rcases h.sn rfl with ⟨h1, h2⟩ | ⟨h1, d, h2, h3, h4⟩
  · have h5 : (stO (l :: out)).sn = false := by
      cases h9 : (stO (l :: out)).sn
      · rfl
      · rw [bEL_sn cur _ h9] at h1; cases h1
    exact Or.inl ⟨h2, mk [] (Or.inl ⟨h5, rfl⟩)⟩
  · obtain ⟨h5, h6⟩ := h4
    rw [List.length_cons] at h3
    by_cases hd : out.length < d
    · exact Or.inr (Or.inl ⟨d, h2, hd, mk [] (Or.inl ⟨by rw [h5, decide_eq_false_iff_not]; omega, rfl⟩)⟩)
    · exact Or.inr (Or.inr ⟨d, h2, by omega, mk seen (Or.inr ⟨by rw [h5, decide_eq_true_eq]; omega, d, h2, by omega, h6⟩)⟩)
theorem ZI.letx {i : Nat} {cur : List BS} {out : List (List BS)} {seen : List Int} {lets uses : Nat} (h : ZI i cur out seen lets uses true) : ZI (i + 1) (cur ++ [.lt]) out (seen ++ [(out.length : Int)]) (lets + 1) uses (decide (seen.length = 0)) := by
  have hb : (bEL cur (stO out)).bad = false := h.bad
  have e : bEL (cur ++ [.lt]) (stO out) = bE .lt (bEL cur (stO out)) := by rw [bEL_append, bEL_one]
  have hdp : bDL (cur ++ [.lt]) + out.length ≤ 15 := by have := h.deep; rw [bDL_append, bDL, bDL, bD]; omega
  have hct : bCL (cur ++ [.lt]) + czO out ≤ i + 1 := by have := h.cnt; rw [bCL_append, bCL, bCL, bC]; omega
  rcases h.sn rfl with ⟨h1, rfl⟩ | ⟨h1, d, rfl, h3, h4⟩
  · have e2 : bEL (cur ++ [.lt]) (stO out) = ⟨true, (bEL cur (stO out)).lets + 1, (bEL cur (stO out)).sls + 1, false⟩ := by rw [e, bE, hb, if_neg (by decide), h1, if_neg (by decide)]
    have hso : (stO out).sn = false := by
      cases h9 : (stO out).sn
      · rfl
      · rw [bEL_sn cur _ h9] at h1; cases h1
    exact ⟨by rw [e2]; rfl, fun _ => by rw [e2]; show _ + 1 = _; rw [h.hlt rfl], fun _ => by rw [e2]; show _ + 1 = _; rw [h.sls rfl]; omega, fun _ => Or.inr ⟨by rw [e2], out.length, rfl, Nat.le_refl _, flO_not out _ hso (Nat.le_refl _)⟩, hdp, h.dz, hct, by have := h.lb; omega, by have := h.ub; omega⟩
  · have e2 : (bEL (cur ++ [.lt]) (stO out)).bad = true := by rw [e, bE, hb, if_neg (by decide), h1, if_pos rfl]
    exact ⟨by rw [e2]; rfl, fun h9 => by (cases h9), fun h9 => by (cases h9), fun h9 => by (cases h9), hdp, h.dz, hct, by have := h.lb; omega, by have := h.ub; omega⟩
theorem ZI.usex {i : Nat} {cur : List BS} {out : List (List BS)} {seen : List Int} {lets uses : Nat} (h : ZI i cur out seen lets uses true) : ZI (i + 1) (cur ++ [.us]) out seen lets (uses + 1) (decide (0 < seen.length)) := by
  have hb : (bEL cur (stO out)).bad = false := h.bad
  have e : bEL (cur ++ [.us]) (stO out) = bE .us (bEL cur (stO out)) := by rw [bEL_append, bEL_one]
  have hdp : bDL (cur ++ [.us]) + out.length ≤ 15 := by have := h.deep; rw [bDL_append, bDL, bDL, bD]; omega
  have hct : bCL (cur ++ [.us]) + czO out ≤ i + 1 := by have := h.cnt; rw [bCL_append, bCL, bCL, bC]; omega
  rcases h.sn rfl with ⟨h1, rfl⟩ | ⟨h1, d, rfl, h3, h4⟩
  · have e2 : (bEL (cur ++ [.us]) (stO out)).bad = true := by rw [e, bE, hb, if_neg (by decide), h1, if_neg (by decide)]
    exact ⟨by rw [e2]; rfl, fun h9 => by (cases h9), fun h9 => by (cases h9), fun h9 => by (cases h9), hdp, h.dz, hct, by have := h.lb; omega, by have := h.ub; omega⟩
  · have e2 : bEL (cur ++ [.us]) (stO out) = ⟨true, (bEL cur (stO out)).lets, (bEL cur (stO out)).sls + 1, false⟩ := by rw [e, bE, hb, if_neg (by decide), h1, if_pos rfl]
    exact ⟨by rw [e2]; rfl, fun _ => by rw [e2]; exact h.hlt rfl, fun _ => by rw [e2]; show _ + 1 = _; rw [h.sls rfl]; omega, fun _ => Or.inr ⟨by rw [e2], d, rfl, h3, h4⟩, hdp, h.dz, hct, by have := h.lb; omega, by have := h.ub; omega⟩

end Go.Proofs.YtjeledllejlpcaaGreatDoor

namespace Go.Proofs.YtjeledllejlpcaaGreatDoor
open Go.RowKit Go.Maps

theorem keyS : Keyed Tryz.prog 9 := string_keyed Tryz.underlying9
theorem zeroI (w : World) : (zeroValue 3).run Tryz.prog w = .ok (.int .i64 0) w := by kernel_rfl
abbrev kyS (s : ByteArray) : Lit := .string s.data.toList

/-- The block bm is a map of at most n entries that has the names as lm says. -/
def MapIs (w : World) (bm n : Nat) (lm : List (ByteArray × Int)) : Prop := ∃ D : DataW Unit, w.ownsMap Tryz.prog 9 (plainElem Tryz.prog 3) bm n D ∧
  ∀ s : ByteArray, Maps.has D (kyS s) = (lkp lm s).isSome ∧ ∀ v, lkp lm s = some v → D.atKey (kyS s) (.lit (.int .i64 0)) = .lit (.int .i64 v)

theorem MapIs.keep {w w' : World} {bm n : Nat} {lm : List (ByteArray × Int)} (h : MapIs w bm n lm) (hk : w'.heap[bm]? = w.heap[bm]?) : MapIs w' bm n lm := by
  obtain ⟨D, ⟨es, clock, hb, r⟩, hs⟩ := h
  exact ⟨D, ⟨es, clock, hk.trans hb, r⟩, hs⟩
theorem MapIs.lt {w : World} {bm n : Nat} {lm : List (ByteArray × Int)} (h : MapIs w bm n lm) : bm < w.heap.size := by
  obtain ⟨D, ⟨es, clock, hb, r⟩, hs⟩ := h
  exact (Array.getElem?_eq_some_iff.1 hb).1
theorem MapIs.made (w : World) : MapIs (w.alloc (.map #[] 0)) w.heap.size 0 [] :=
  ⟨.map [], World.ownsMap_made w _ _ _, fun s => ⟨rfl, fun v h => by cases h⟩⟩

theorem lkp_cons (k : ByteArray) (v : Int) (lm : List (ByteArray × Int)) (s : ByteArray) : lkp ((k, v) :: lm) s = if k.data.toList = s.data.toList then some v else lkp lm s := by
  unfold lkp
  rw [List.find?_cons]
  by_cases h : k.data.toList = s.data.toList
  · have e : (k.data.toList == s.data.toList) = true := beq_iff_eq.2 h
    rw [if_pos h]
    show Option.map _ (match (k.data.toList == s.data.toList) with | true => some (k, v) | false => _) = _
    rw [e]
    rfl
  · have e : (k.data.toList == s.data.toList) = false := beq_eq_false_iff_ne.2 h
    rw [if_neg h]
    show Option.map _ (match (k.data.toList == s.data.toList) with | true => some (k, v) | false => _) = _
    rw [e]
theorem lkp_drp (lm : List (ByteArray × Int)) (k s : ByteArray) : lkp (drp lm k) s = if k.data.toList = s.data.toList then none else lkp lm s := by
  induction lm with
  | nil => unfold lkp drp; simp
  | cons p r ih =>
    by_cases hp : p.1.data.toList = k.data.toList
    · have e : drp (p :: r) k = drp r k := by
        have e1 : (p.1.data.toList == k.data.toList) = true := beq_iff_eq.2 hp
        unfold drp; rw [List.filter_cons, e1]; rfl
      rw [e, ih]
      split
      · rfl
      · rename_i hne
        rw [show p = (p.1, p.2) from rfl, lkp_cons, if_neg (by rw [hp]; exact hne)]
    · have e : drp (p :: r) k = p :: drp r k := by
        have e1 : (p.1.data.toList == k.data.toList) = false := beq_eq_false_iff_ne.2 hp
        unfold drp; rw [List.filter_cons, e1]; rfl
      rw [e, show p = (p.1, p.2) from rfl, lkp_cons, ih, lkp_cons]
      by_cases h2 : p.1.data.toList = s.data.toList
      · rw [if_pos h2, if_pos h2, if_neg (by intro h3; exact hp (h2.trans h3.symm))]
      · rw [if_neg h2, if_neg h2]

theorem MapIs.put {w' : World} {bm n : Nat} {lm : List (ByteArray × Int)} {D : DataW Unit} {k : ByteArray} {v : Int} (hD : IsMap D) (hs : ∀ s : ByteArray, Maps.has D (kyS s) = (lkp lm s).isSome ∧ ∀ v, lkp lm s = some v → D.atKey (kyS s) (.lit (.int .i64 0)) = .lit (.int .i64 v))
    (ho : w'.ownsMap Tryz.prog 9 (plainElem Tryz.prog 3) bm (n + 1) (D.put (kyS k) (.lit (.int .i64 v)))) : MapIs w' bm (n + 1) ((k, v) :: lm) := by
  refine ⟨_, ho, fun s => ?_⟩
  rw [lkp_cons]
  by_cases h : k.data.toList = s.data.toList
  · rw [if_pos h, show kyS s = kyS k from congrArg Lit.string h.symm]
    exact ⟨Maps.has_put_same hD (show WideAt.IsKeyLit (kyS k) from trivial) _, fun x hx => by cases hx; exact Maps.atKey_put_same hD (show WideAt.IsKeyLit (kyS k) from trivial) _ _⟩
  · have hne : kyS s ≠ kyS k := fun e => h (by injection e with e; exact e.symm)
    rw [if_neg h, Maps.has_put_other hne]
    exact ⟨(hs s).1, fun x hx => by rw [Maps.atKey_put_other hne]; exact (hs s).2 x hx⟩
theorem MapIs.del {w' : World} {bm n : Nat} {lm : List (ByteArray × Int)} {D : DataW Unit} {k : ByteArray} (hs : ∀ s : ByteArray, Maps.has D (kyS s) = (lkp lm s).isSome ∧ ∀ v, lkp lm s = some v → D.atKey (kyS s) (.lit (.int .i64 0)) = .lit (.int .i64 v))
    (ho : w'.ownsMap Tryz.prog 9 (plainElem Tryz.prog 3) bm n (D.del (kyS k))) : MapIs w' bm n (drp lm k) := by
  refine ⟨_, ho, fun s => ?_⟩
  rw [lkp_drp]
  by_cases h : k.data.toList = s.data.toList
  · rw [if_pos h, show kyS s = kyS k from congrArg Lit.string h.symm]
    exact ⟨Maps.has_del_same, fun x hx => by cases hx⟩
  · have hne : kyS s ≠ kyS k := fun e => h (by injection e with e; exact e.symm)
    rw [if_neg h, Maps.has_del_other hne]
    exact ⟨(hs s).1, fun x hx => by rw [Maps.atKey_del_other hne]; exact (hs s).2 x hx⟩

/-- A row of one's own whose block has that colour. -/
structure RowAt (w : World) (col : Nat → Nat) (c : Nat) (t : TypeId) (a : Option Addr) (cap : Nat) (xs : List Value) : Prop where
  own : w.ownsRow 0 t 1 (.slice a xs.length cap) xs.length xs
  hue : ∀ k, (Value.slice a xs.length cap).ownBlock = some k → col k = c

theorem RowAt.keep {w w' : World} {col col' : Nat → Nat} {c : Nat} {t : TypeId} {a : Option Addr} {cap : Nat} {xs : List Value} (h : RowAt w col c t a cap xs) (hk : ∀ k, k < w.heap.size → col k = c → w'.heap[k]? = w.heap[k]?) (hc : ∀ k, k < w.heap.size → col' k = col k) : RowAt w' col' c t a cap xs := by
  refine ⟨?_, fun k e => by rw [hc k (h.own.lt k e).2]; exact h.hue k e⟩
  have hlt := h.own.lt
  have hue := h.hue
  obtain ⟨h1, h2⟩ := h.own
  refine ⟨h1, ?_⟩
  rcases h2 with h2 | ⟨g, cap2, cur, e, hb, hg, rest⟩
  · exact Or.inl h2
  · have ho : (Value.slice a xs.length cap).ownBlock = some g := by rw [e]; rfl
    exact Or.inr ⟨g, cap2, cur, e, hb, (hk g (hlt g ho).2 (hue g ho)).trans hg, rest⟩

abbrev wkO (P : Nat) (lv : Option Nat) (oa : Option Addr) (on oc : Nat) (ba : Option Addr) (bn bc : Nat) (lp lc : Int) (sa : Option Addr) (sn sc : Nat) (ca : Option Addr) (cn cc : Nat) (e : Int) : Obj :=
  .cells #[.pointer (some ⟨P, 0, none⟩), .map lv, .slice oa on oc, .slice ba bn bc, .int .i64 lp, .int .i64 lc, .slice sa sn sc, .slice ca cn cc, .int .i64 e] 73 (0, 0)
abbrev pgO (fv : Value) (M : Nat) (sp : Int) : Obj := .cells #[fv, .map (some M), .int .i64 sp] 68 (0, 0)
abbrev strs (l : List ByteArray) : List Value := l.map Value.string
abbrev nms (l : List Int) : List Value := l.map (Value.int .i64)

/-- The map of the names that are visible. -/
def MapAt (w : World) (col : Nat → Nat) (lv : Option Nat) (lm : List (ByteArray × Int)) (ct : Nat) : Prop :=
  (lv = none ∧ lm = []) ∨ ∃ bm n, lv = some bm ∧ col bm = 1 ∧ n ≤ ct ∧ MapIs w bm n lm

/-- The blocks B and P hold a walk and its program that stand so; blocks of the colour 0 are none of theirs. -/
structure WS (w : World) (B P M : Nat) (fv : Value) (col : Nat → Nat) (st : WK) : Prop where
  fresh : ∀ k, w.heap.size ≤ k → col k = 0
  cB : col B = 6
  cP : col P = 7
  ex : ∃ (lv : Option Nat) (oa ba sa ca : Option Addr) (oc bc sc cc : Nat),
    w.heap[B]? = some (wkO P lv oa st.od.length oc ba st.bk.length bc st.lp st.lc sa st.sl.length sc ca st.cl.length cc st.e) ∧
    w.heap[P]? = some (pgO fv M st.sp) ∧ MapAt w col lv st.lm st.ct ∧
    RowAt w col 2 9 oa oc (strs st.od) ∧ RowAt w col 3 3 ba bc (nms st.bk) ∧ RowAt w col 4 3 sa sc (nms st.sl) ∧ RowAt w col 5 3 ca cc (nms st.cl)

/-- Only blocks with a colour have turned; colours stay. -/
structure Wk (col col' : Nat → Nat) (w w' : World) : Prop where
  os : w'.os = w.os
  tape : w'.tape = w.tape
  output : w'.output = w.output
  size : w.heap.size ≤ w'.heap.size
  same : ∀ k, k < w.heap.size → col' k = col k
  keep : ∀ k, k < w.heap.size → col k = 0 → w'.heap[k]? = w.heap[k]?

theorem Wk.refl (col : Nat → Nat) (w : World) : Wk col col w w := ⟨rfl, rfl, rfl, Nat.le_refl _, fun _ _ => rfl, fun _ _ _ => rfl⟩
theorem Wk.trans {c1 c2 c3 : Nat → Nat} {a b c : World} (h : Wk c1 c2 a b) (k : Wk c2 c3 b c) : Wk c1 c3 a c :=
  ⟨k.os.trans h.os, k.tape.trans h.tape, k.output.trans h.output, Nat.le_trans h.size k.size, fun i hi => (k.same i (Nat.lt_of_lt_of_le hi h.size)).trans (h.same i hi), fun i hi h0 => (k.keep i (Nat.lt_of_lt_of_le hi h.size) ((h.same i hi).trans h0)).trans (h.keep i hi h0)⟩
theorem Wk.ext {col : Nat → Nat} {w w' : World} (h : Ext w w') : Wk col col w w' := ⟨h.os, h.tape, h.output, h.size, fun _ _ => rfl, fun k hk _ => h.block k hk⟩

/-- Whatever keeps the blocks that have a colour keeps it. -/
theorem WS.keep {w w' : World} {B P M : Nat} {fv : Value} {col : Nat → Nat} {st : WK} (h : WS w B P M fv col st) (hz : w.heap.size ≤ w'.heap.size) (hk : ∀ k, k < w.heap.size → col k ≠ 0 → w'.heap[k]? = w.heap[k]?) : WS w' B P M fv col st := by
  obtain ⟨lv, oa, ba, sa, ca, oc, bc, sc, cc, hB, hP, hm, h2, h3, h4, h5⟩ := h.ex
  have lB := (Array.getElem?_eq_some_iff.1 hB).1
  have lP := (Array.getElem?_eq_some_iff.1 hP).1
  refine ⟨fun k hk => h.fresh k (by omega), h.cB, h.cP, lv, oa, ba, sa, ca, oc, bc, sc, cc, (hk B lB (by rw [h.cB]; decide)).trans hB, (hk P lP (by rw [h.cP]; decide)).trans hP, ?_, h2.keep (fun k h1 h2 => hk k h1 (by omega)) (fun _ _ => rfl), h3.keep (fun k h1 h2 => hk k h1 (by omega)) (fun _ _ => rfl), h4.keep (fun k h1 h2 => hk k h1 (by omega)) (fun _ _ => rfl), h5.keep (fun k h1 h2 => hk k h1 (by omega)) (fun _ _ => rfl)⟩
  rcases hm with hm | ⟨bm, n, e, hc, hn, hm⟩
  · exact Or.inl hm
  · exact Or.inr ⟨bm, n, e, hc, hn, hm.keep (hk bm hm.lt (by rw [hc]; decide))⟩
theorem WS.ext {w w' : World} {B P M : Nat} {fv : Value} {col : Nat → Nat} {st : WK} (h : WS w B P M fv col st) (k : Ext w w') : WS w' B P M fv col st := h.keep k.le (fun i hi _ => k.block i hi)

/-- What a call of one of the walk's functions that answer nothing does. -/
def Walks (B P M : Nat) (fv : Value) (col : Nat → Nat) (w : World) (st' : WK) (e : Ending) (w' : World) : Prop :=
  e = .returned (.tuple #[]) ∧ ∃ col', WS w' B P M fv col' st' ∧ Wk col col' w w'

end Go.Proofs.YtjeledllejlpcaaGreatDoor
