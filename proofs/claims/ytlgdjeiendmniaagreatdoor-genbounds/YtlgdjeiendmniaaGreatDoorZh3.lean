/- The words of a text in which a blank stands behind each word (for ScopeBlocks). · Lets, prints and blocks behind ifs, read out of their words (for ScopeBlocks). · The texts of GenBounds' statements, read and checked. · Straight code: its heights, and that it has no cycle. -/
import Derived.Test.YtlgdjeiendmniaaGreatDoorZg39
import Derived.Test.YtlgdjeiendmniaaGreatDoorZh2
import Derived.Test.YtlgdjeiendmniaaGreatDoorZg31
import Derived.Test.YtlgdjeiendmniaaGreatDoorZg7
set_option linter.unusedSimpArgs false
set_option linter.unusedVariables false
set_option maxRecDepth 10000

namespace Go.Proofs.YtlgdjeiendmniaaGreatDoor
open Go.RowKit

/-- A word: its bytes, and what the lexer tells of it. -/
structure Wd where
  b : List UInt8
  k : Int
  t : List UInt8
  n : Int
/-- It is read as it says wherever a blank follows. -/
structure Wd.Ok (F : Nat) (w : Wd) : Prop where
  pos : 0 < w.b.length
  tok : ∀ rest, tokL F (w.b ++ 32 :: rest) = some (w.k, w.t, w.n, w.b.length)
  skp : ∀ rest, skp false (w.b ++ rest) = 0
def Wd.tk (w : Wd) (o : Nat) : Tk := ⟨w.k, ⟨w.t.toArray⟩, w.n, o⟩
def tksAt : List Wd → Nat → List Tk
  | [], _ => []
  | w :: ws, o => w.tk o :: tksAt ws (o + w.b.length + 1)
def wTxt : List Wd → List UInt8
  | [] => []
  | w :: ws => w.b ++ 32 :: wTxt ws
theorem wTxt_append : ∀ (a b : List Wd), wTxt (a ++ b) = wTxt a ++ wTxt b
  | [], b => rfl
  | w :: a, b => by rw [List.cons_append, wTxt, wTxt, wTxt_append a b]; simp

theorem lex_blank (F f : Nat) (rest : List UInt8) (o : Nat) : lexL F (f + 1) (32 :: rest) o = lexL F (f + 1) rest (o + 1) := by
  rw [lexL, lexL]
  have h : skp false (32 :: rest) = 1 + skp false rest := by rw [skp, if_pos (by decide)]
  rw [h, Nat.add_comm 1, List.drop_succ_cons]
  have e : o + (skp false rest + 1) = o + 1 + skp false rest := by omega
  rw [e]
theorem lex_word {F f : Nat} {w : Wd} (h : w.Ok F) (rest : List UInt8) (o : Nat) : lexL F (f + 2) (w.b ++ 32 :: rest) o = (w.tk o :: (lexL F (f + 1) rest (o + w.b.length + 1)).1, (lexL F (f + 1) rest (o + w.b.length + 1)).2) := by
  rw [lexL, h.skp, List.drop_zero, Nat.add_zero]
  have ht := h.tok rest
  have hd : (w.b ++ 32 :: rest).drop w.b.length = 32 :: rest := by simp
  cases hl : w.b ++ 32 :: rest with
  | nil => simp at hl
  | cons c r =>
    rw [hl] at ht hd
    simp only
    rw [ht]
    simp only
    rw [hd, lex_blank]
    rfl
theorem lex_words {F : Nat} : ∀ (ws : List Wd) (f : Nat) (tail : List UInt8) (o : Nat), (∀ w ∈ ws, w.Ok F) → lexL F (f + 1 + ws.length) (wTxt ws ++ tail) o = (tksAt ws o ++ (lexL F (f + 1) tail (o + (wTxt ws).length)).1, (lexL F (f + 1) tail (o + (wTxt ws).length)).2)
  | [], f, tail, o, h => by simp [wTxt, tksAt]
  | w :: ws, f, tail, o, h => by
    have e : f + 1 + (w :: ws).length = (f + ws.length) + 2 := by simp; omega
    rw [e, wTxt, List.append_assoc, List.cons_append, lex_word (h w (by simp)), show f + ws.length + 1 = f + 1 + ws.length by omega, lex_words ws f tail _ (fun x hx => h x (by simp [hx]))]
    have e2 : o + w.b.length + 1 + (wTxt ws).length = o + (w.b ++ 32 :: wTxt ws).length := by simp; omega
    rw [e2, tksAt]
    rfl
theorem lex_shut (F f o : Nat) : lexL F (f + 2) [125] o = ([⟨6, ⟨#[125]⟩, 0, o⟩], none) := by
  rfl

/-- The words that ScopeBlocks puts into its text. -/
def wFn : Wd := ⟨[102, 110], 2, [102, 110], 0⟩
def wMain : Wd := ⟨[109, 97, 105, 110], 1, [109, 97, 105, 110], 0⟩
def wOp : Wd := ⟨[40], 6, [40], 0⟩
def wCl : Wd := ⟨[41], 6, [41], 0⟩
def wLb : Wd := ⟨[123], 6, [123], 0⟩
def wRb : Wd := ⟨[125], 6, [125], 0⟩
def wIf : Wd := ⟨[105, 102], 2, [105, 102], 0⟩
def wOne : Wd := ⟨[49], 3, [], 1⟩
def wLet : Wd := ⟨[108, 101, 116], 2, [108, 101, 116], 0⟩
def wX : Wd := ⟨[120], 1, [120], 0⟩
def wEq : Wd := ⟨[61], 6, [61], 0⟩
def wSe : Wd := ⟨[59], 6, [59], 0⟩
def wPr : Wd := ⟨[112, 114, 105, 110, 116], 2, [112, 114, 105, 110, 116], 0⟩
theorem wFn_ok (F : Nat) : wFn.Ok F := ⟨by decide, fun _ => rfl, fun _ => rfl⟩
theorem wMain_ok (F : Nat) : wMain.Ok F := ⟨by decide, fun _ => rfl, fun _ => rfl⟩
theorem wOp_ok (F : Nat) : wOp.Ok F := ⟨by decide, fun _ => rfl, fun _ => rfl⟩
theorem wCl_ok (F : Nat) : wCl.Ok F := ⟨by decide, fun _ => rfl, fun _ => rfl⟩
theorem wLb_ok (F : Nat) : wLb.Ok F := ⟨by decide, fun _ => rfl, fun _ => rfl⟩
theorem wRb_ok (F : Nat) : wRb.Ok F := ⟨by decide, fun _ => rfl, fun _ => rfl⟩
theorem wIf_ok (F : Nat) : wIf.Ok F := ⟨by decide, fun _ => rfl, fun _ => rfl⟩
theorem wOne_ok (F : Nat) : wOne.Ok F := ⟨by decide, fun _ => rfl, fun _ => rfl⟩
theorem wLet_ok (F : Nat) : wLet.Ok F := ⟨by decide, fun _ => rfl, fun _ => rfl⟩
theorem wX_ok (F : Nat) : wX.Ok F := ⟨by decide, fun _ => rfl, fun _ => rfl⟩
theorem wEq_ok (F : Nat) : wEq.Ok F := ⟨by decide, fun _ => rfl, fun _ => rfl⟩
theorem wSe_ok (F : Nat) : wSe.Ok F := ⟨by decide, fun _ => rfl, fun _ => rfl⟩
theorem wPr_ok (F : Nat) : wPr.Ok F := ⟨by decide, fun _ => rfl, fun _ => rfl⟩

end Go.Proofs.YtlgdjeiendmniaaGreatDoor

namespace Go.Proofs.YtlgdjeiendmniaaGreatDoor
open Go.RowKit

/-- What ScopeBlocks writes: let x = 1; print x; if 1 { .. }. -/
inductive BS where
  | lt : BS
  | us : BS
  | fi : List BS → BS

def xB : ByteArray := ⟨#[120]⟩
def oneN : PN := ⟨15, 0, emptyB, 1, []⟩
mutual
def bW : BS → List Wd
  | .lt => [wLet, wX, wEq, wOne, wSe]
  | .us => [wPr, wX, wSe]
  | .fi l => wIf :: wOne :: wLb :: (bWL l ++ [wRb])
def bWL : List BS → List Wd
  | [] => []
  | b :: l => bW b ++ bWL l
end
mutual
def bN : BS → PN
  | .lt => ⟨1, 0, xB, 0, [oneN]⟩
  | .us => ⟨8, 0, emptyB, 0, [⟨19, 0, xB, 0, []⟩]⟩
  | .fi l => ⟨3, 0, emptyB, 0, [oneN, ⟨10, 0, emptyB, 0, bNL l⟩]⟩
def bNL : List BS → List PN
  | [] => []
  | b :: l => bN b :: bNL l
end
mutual
def bD : BS → Nat
  | .lt => 0
  | .us => 0
  | .fi l => 1 + bDL l
def bDL : List BS → Nat
  | [] => 0
  | b :: l => max (bD b) (bDL l)
end
mutual
def bC : BS → Nat
  | .lt => 1
  | .us => 1
  | .fi l => 1 + bCL l
def bCL : List BS → Nat
  | [] => 0
  | b :: l => bC b + bCL l
end
theorem bNL_append : ∀ (a b : List BS), bNL (a ++ b) = bNL a ++ bNL b
  | [], b => rfl
  | x :: a, b => by rw [List.cons_append, bNL, bNL, bNL_append a b, List.cons_append]
theorem bWL_append : ∀ (a b : List BS), bWL (a ++ b) = bWL a ++ bWL b
  | [], b => rfl
  | x :: a, b => by rw [List.cons_append, bWL, bWL, bWL_append a b, List.append_assoc]
theorem tks_append : ∀ (a b : List Wd) (o : Nat), tksAt (a ++ b) o = tksAt a o ++ tksAt b (o + (wTxt a).length)
  | [], b, o => rfl
  | w :: a, b, o => by
    rw [List.cons_append, tksAt, tksAt, tks_append a b, List.cons_append, wTxt]
    have e : o + w.b.length + 1 + (wTxt a).length = o + (w.b ++ 32 :: wTxt a).length := by simp; omega
    rw [e]

theorem ex_one_s (len g o o2 : Nat) (op pl : Int) (rest : List Tk) : exP len (g + 2) ⟨wOne.tk o :: wSe.tk o2 :: rest, op, pl, 0⟩ = (oneN, ⟨wSe.tk o2 :: rest, op, pl, 0⟩) := by kernel_rfl
theorem ex_one_b (len g o o2 : Nat) (op pl : Int) (rest : List Tk) : exP len (g + 2) ⟨wOne.tk o :: wLb.tk o2 :: rest, op, pl, 0⟩ = (oneN, ⟨wLb.tk o2 :: rest, op, pl, 0⟩) := by kernel_rfl
theorem ex_x_s (len g o o2 : Nat) (op pl : Int) (rest : List Tk) : exP len (g + 2) ⟨wX.tk o :: wSe.tk o2 :: rest, op, pl, 0⟩ = (⟨19, 0, xB, 0, []⟩, ⟨wSe.tk o2 :: rest, op, pl, 0⟩) := by kernel_rfl

theorem st_let (len g : Nat) (bl ch : Rdr) (o1 o2 o3 o4 o5 : Nat) (op pl : Int) (rest : List Tk) : stmP len (exP len (g + 2)) bl ch ⟨wLet.tk o1 :: wX.tk o2 :: wEq.tk o3 :: wOne.tk o4 :: wSe.tk o5 :: rest, op, pl, 0⟩ = (bN .lt, ⟨rest, op, pl, 0⟩) := by kernel_rfl
theorem st_use (len g : Nat) (bl ch : Rdr) (o1 o2 o3 : Nat) (op pl : Int) (rest : List Tk) : stmP len (exP len (g + 2)) bl ch ⟨wPr.tk o1 :: wX.tk o2 :: wSe.tk o3 :: rest, op, pl, 0⟩ = (bN .us, ⟨rest, op, pl, 0⟩) := by kernel_rfl
theorem st_if (len g : Nat) (bl ch : Rdr) (o1 : Nat) (op pl : Int) (rest : List Tk) : stmP len (exP len (g + 2)) bl ch ⟨wIf.tk o1 :: rest, op, pl, 0⟩ = ch ⟨rest, op, pl, 0⟩ := by kernel_rfl

def elseB : ByteArray := ⟨#[101, 108, 115, 101]⟩
theorem no_else : ∀ (l : List BS) (o o' : Nat) (op pl : Int) (rest : List Tk), PS.isW ⟨tksAt (bWL l) o ++ wRb.tk o' :: rest, op, pl, 0⟩ elseB = false
  | [], o, o', op, pl, rest => by rw [bWL, tksAt, List.nil_append]; kernel_rfl
  | .lt :: l, o, o', op, pl, rest => by rw [bWL, bW]; kernel_rfl
  | .us :: l, o, o', op, pl, rest => by rw [bWL, bW]; kernel_rfl
  | .fi k :: l, o, o', op, pl, rest => by rw [bWL, bW]; kernel_rfl
theorem no_stop : ∀ (b : BS) (l : List BS) (o : Nat) (op pl : Int) (rest : List Tk), PS.stop ⟨tksAt (bWL (b :: l)) o ++ rest, op, pl, 0⟩ = false
  | .lt, l, o, op, pl, rest => by
    rw [bWL, bW]
    unfold PS.stop
    rw [Bool.or_eq_false_iff]
    exact ⟨by simp [tksAt]; omega, by kernel_rfl⟩
  | .us, l, o, op, pl, rest => by
    rw [bWL, bW]
    unfold PS.stop
    rw [Bool.or_eq_false_iff]
    exact ⟨by simp [tksAt]; omega, by kernel_rfl⟩
  | .fi k, l, o, op, pl, rest => by
    rw [bWL, bW]
    unfold PS.stop
    rw [Bool.or_eq_false_iff]
    exact ⟨by simp [tksAt]; omega, by kernel_rfl⟩
theorem yes_stop (o : Nat) (op pl : Int) (rest : List Tk) : PS.stop ⟨wRb.tk o :: rest, op, pl, 0⟩ = true := by
  unfold PS.stop
  rw [Bool.or_eq_true]
  exact Or.inr (by kernel_rfl)
theorem bC_pos (b : BS) : 1 ≤ bC b := by cases b <;> rw [bC] <;> omega

theorem blk_open (len : Nat) (sm : Rdr) (f o : Nat) (op pl : Int) (ts : List Tk) (h0 : 0 ≤ op) (h1 : op ≤ 23) : blkP len sm f ⟨wLb.tk o :: ts, op, pl, 0⟩ = (⟨10, 0, emptyB, 0, (blkLoop sm f [] ⟨ts, op + 1, pl, 0⟩).1⟩, ((blkLoop sm f [] ⟨ts, op + 1, pl, 0⟩).2.sign len ⟨#[125]⟩).leave) := by
  unfold blkP
  have e1 : PS.isS ⟨wLb.tk o :: ts, op, pl, 0⟩ ⟨#[123]⟩ = true := by kernel_rfl
  have hw : wrap64 (op + 1) = op + 1 := by unfold wrap64; omega
  have e2 : (PS.enter ⟨wLb.tk o :: ts, op, pl, 0⟩ len).next = ⟨ts, op + 1, pl, 0⟩ := by
    unfold PS.enter PS.up
    simp only
    rw [hw, if_neg (by omega)]
    rfl
  rw [if_pos e1, e2]
theorem shut_blk (len o : Nat) (op pl : Int) (ts : List Tk) (h0 : 0 ≤ op) (h1 : op ≤ 23) : (PS.sign ⟨wRb.tk o :: ts, op + 1, pl, 0⟩ len ⟨#[125]⟩).leave = ⟨ts, op, pl, 0⟩ := by
  unfold PS.sign
  have e1 : PS.isS ⟨wRb.tk o :: ts, op + 1, pl, 0⟩ ⟨#[125]⟩ = true := by kernel_rfl
  rw [if_pos e1]
  unfold PS.next PS.leave
  simp only
  have hw : wrap64 (op + 1 - 1) = op := by unfold wrap64; omega
  rw [hw]
  rfl

theorem blk_read (len g : Nat) : ∀ (n : Nat) (l : List BS), bCL l ≤ n → ∀ (f m : Nat) (acc : List PN) (o o' : Nat) (op pl : Int) (rest : List Tk), 0 ≤ op → op + bDL l ≤ 24 → bCL l + 2 * bDL l + 1 ≤ f → bCL l + 1 ≤ m →
    blkLoop (stsP len (g + 2) f).1 m acc ⟨tksAt (bWL l) o ++ wRb.tk o' :: rest, op, pl, 0⟩ = (acc ++ bNL l, ⟨wRb.tk o' :: rest, op, pl, 0⟩) := by
  intro n
  induction n with
  | zero =>
    intro l hn f m acc o o' op pl rest h0 h1 hf hm
    cases l with
    | nil =>
      obtain ⟨m, rfl⟩ : ∃ k, m = k + 1 := ⟨m - 1, by omega⟩
      rw [bWL, tksAt, List.nil_append, blkLoop, if_pos (yes_stop _ _ _ _), bNL, List.append_nil]
    | cons b t => rw [bCL] at hn; have := bC_pos b; omega
  | succ n ih =>
    intro l hn f m acc o o' op pl rest h0 h1 hf hm
    obtain ⟨m, rfl⟩ : ∃ k, m = k + 1 := ⟨m - 1, by omega⟩
    cases l with
    | nil => rw [bWL, tksAt, List.nil_append, blkLoop, if_pos (yes_stop _ _ _ _), bNL, List.append_nil]
    | cons b t =>
      rw [bCL] at hn hf hm
      rw [bDL] at h1 hf
      have hb := bC_pos b
      have hmx1 : bD b ≤ max (bD b) (bDL t) := Nat.le_max_left _ _
      have hmx2 : bDL t ≤ max (bD b) (bDL t) := Nat.le_max_right _ _
      rw [blkLoop, if_neg (by rw [no_stop]; decide)]
      have key : (stsP len (g + 2) f).1 ⟨tksAt (bWL (b :: t)) o ++ wRb.tk o' :: rest, op, pl, 0⟩ = (bN b, ⟨tksAt (bWL t) (o + (wTxt (bW b)).length) ++ wRb.tk o' :: rest, op, pl, 0⟩) := by
        obtain ⟨f, rfl⟩ : ∃ k, f = k + 2 := ⟨f - 2, by omega⟩
        rw [bWL, tks_append, List.append_assoc]
        rw [stsP]
        simp only
        cases b with
        | lt => exact st_let len g _ _ _ _ _ _ _ op pl _
        | us => exact st_use len g _ _ _ _ _ op pl _
        | fi k =>
          have hbd : bD (.fi k) = 1 + bDL k := by rw [bD]
          rw [bC] at hn hf hm
          rw [hbd] at hmx1 hmx2 h1 hf
          rw [bW, tksAt, tksAt, tksAt, List.cons_append, List.cons_append, List.cons_append, st_if, stsP]
          simp only
          unfold choP
          rw [ex_one_b]
          simp only
          rw [blk_open len _ _ _ op pl _ h0 (by omega), tks_append, List.append_assoc, show ∀ (B : Nat) (X : List Tk), tksAt [wRb] B ++ X = wRb.tk B :: X from fun _ _ => rfl]
          rw [ih k (by omega) f (f + 1) [] _ _ (op + 1) pl _ (by omega) (by omega) (by omega) (by omega)]
          simp only
          rw [shut_blk len _ op pl _ h0 (by omega)]
          have hne := no_else t (o + (wTxt (wIf :: wOne :: wLb :: (bWL k ++ [wRb]))).length) o' op pl rest
          rw [if_neg (by intro e; exact absurd (e.symm.trans hne) (by decide))]
          rfl
      rw [key]
      simp only
      rw [ih t (by omega) f m _ _ o' op pl rest h0 (by omega) (by omega) (by omega), bNL, List.append_assoc]
      rfl

end Go.Proofs.YtlgdjeiendmniaaGreatDoor

namespace Go.Proofs.YtlgdjeiendmniaaGreatDoor
open Go.RowKit Go.Maps

def gdH : List Wd := [wFn, wMain, wOp, wCl, wLb]
def gdA : List UInt8 := [102, 110, 32, 109, 97, 105, 110, 32, 40, 32, 41, 32, 123, 32]
def gdU : List UInt8 := [49, 61, 61, 49, 59, 32]
/-- The text: fn main ( ) { 1==1; .. }. -/
def gdT (n : Nat) : List UInt8 := gdA ++ rp gdU n ++ [125]
def wEE : Wd := ⟨[61, 61], 6, [61, 61], 0⟩
def uTks : Nat → Nat → List Tk
  | 0, _ => []
  | n + 1, o => wOne.tk o :: wEE.tk (o + 1) :: wOne.tk (o + 3) :: wSe.tk (o + 4) :: uTks n (o + 6)
theorem rp_front (l : List UInt8) : ∀ n, rp l (n + 1) = l ++ rp l n := by
  intro n
  induction n with
  | zero => simp [rp]
  | succ n ih =>
    rw [rp, ih, List.append_assoc, ← rp]
    show l ++ rp l (n + 1) = _
    rw [ih]
theorem lex_u (F f o : Nat) (rest : List UInt8) : lexL F (f + 5) (49 :: 61 :: 61 :: 49 :: 59 :: 32 :: rest) o = (wOne.tk o :: wEE.tk (o + 1) :: wOne.tk (o + 3) :: wSe.tk (o + 4) :: (lexL F (f + 1) rest (o + 6)).1, (lexL F (f + 1) rest (o + 6)).2) := by
  have h : lexL F (f + 5) (49 :: 61 :: 61 :: 49 :: 59 :: 32 :: rest) o = (wOne.tk o :: wEE.tk (o + 1) :: wOne.tk (o + 3) :: wSe.tk (o + 4) :: (lexL F (f + 1) (32 :: rest) (o + 5)).1, (lexL F (f + 1) (32 :: rest) (o + 5)).2) := by kernel_rfl
  rw [h, lex_blank]
theorem lex_us (F : Nat) : ∀ (n f : Nat) (tail : List UInt8) (o : Nat), lexL F (f + 1 + 4 * n) (rp gdU n ++ tail) o = (uTks n o ++ (lexL F (f + 1) tail (o + 6 * n)).1, (lexL F (f + 1) tail (o + 6 * n)).2) := by
  intro n
  induction n with
  | zero => intro f tail o; simp [rp, uTks]
  | succ n ih =>
    intro f tail o
    rw [rp_front, List.append_assoc, show f + 1 + 4 * (n + 1) = (f + 4 * n) + 5 by omega]
    show lexL F (f + 4 * n + 5) (49 :: 61 :: 61 :: 49 :: 59 :: 32 :: (rp gdU n ++ tail)) o = _
    rw [lex_u, show f + 4 * n + 1 = f + 1 + 4 * n by omega, ih, show o + 6 + 6 * n = o + 6 * (n + 1) by omega, uTks]
    rfl
theorem gdT_len (n : Nat) : (gdT n).length = 15 + n * 6 := by
  unfold gdT
  rw [List.length_append, List.length_append, rp_len]
  simp only [gdA, gdU, List.length_cons, List.length_nil]
  omega
theorem gdH_ok (F : Nat) : ∀ w ∈ gdH, w.Ok F := by
  intro w hw
  simp [gdH] at hw
  rcases hw with rfl | rfl | rfl | rfl | rfl
  · exact wFn_ok F
  · exact wMain_ok F
  · exact wOp_ok F
  · exact wCl_ok F
  · exact wLb_ok F
theorem gd_beg (n : Nat) (hn : n ≤ 300) : ∃ o, begP ⟨(gdT n).toArray⟩ = ⟨tksAt gdH 0 ++ (uTks n 14 ++ [wRb.tk o]), 0, 0, 0⟩ := by
  have hlen := gdT_len n
  have key : ∀ F, lexL F ((gdT n).length + 1) (gdT n) 0 = (tksAt gdH 0 ++ (uTks n 14 ++ [wRb.tk (14 + 6 * n)]), none) := by
    intro F
    have e1 : gdT n = wTxt gdH ++ (rp gdU n ++ [125]) := by unfold gdT; rw [List.append_assoc]; rfl
    obtain ⟨f, hf⟩ : ∃ f, (gdT n).length + 1 = f + 1 + 4 * n + 1 + gdH.length := ⟨(gdT n).length + 1 - (2 + 4 * n + 5), by rw [hlen]; show _ = _ + 5; omega⟩
    rw [hf, e1, lex_words gdH (f + 1 + 4 * n) _ 0 (gdH_ok F), show f + 1 + 4 * n + 1 = f + 1 + 1 + 4 * n by omega, show 0 + (wTxt gdH).length = 14 from rfl, lex_us, lex_shut]
    rfl
  refine ⟨14 + 6 * n, ?_⟩
  rw [begP_L]
  unfold begL
  rw [if_neg (by omega), key]
theorem uTks_len : ∀ (n o : Nat), (uTks n o).length = 4 * n := by
  intro n
  induction n with
  | zero => intro o; rfl
  | succ n ih => intro o; rw [uTks]; simp only [List.length_cons, ih]; omega

def doN : PN := ⟨9, 0, emptyB, 0, [⟨11, 6, emptyB, 0, [oneN, oneN]⟩]⟩
def gdB (n : Nat) : PN := ⟨10, 0, emptyB, 0, List.replicate n doN⟩
def gdM (n : Nat) : PFn := ⟨⟨#[109, 97, 105, 110]⟩, [], gdB n⟩
theorem st_do (len g : Nat) (bl ch : Rdr) (o1 o2 o3 o4 : Nat) (op pl : Int) (rest : List Tk) : stmP len (exP len (g + 3)) bl ch ⟨wOne.tk o1 :: wEE.tk o2 :: wOne.tk o3 :: wSe.tk o4 :: rest, op, pl, 0⟩ = (doN, ⟨rest, op, pl, 0⟩) := by kernel_rfl
theorem no_stopU (n o : Nat) (op pl : Int) (rest : List Tk) : PS.stop ⟨uTks (n + 1) o ++ rest, op, pl, 0⟩ = false := by
  rw [uTks]
  unfold PS.stop
  rw [Bool.or_eq_false_iff]
  exact ⟨by simp [uTks]; omega, by kernel_rfl⟩
theorem us_read (len g f : Nat) : ∀ (n m : Nat) (acc : List PN) (o o' : Nat) (op pl : Int) (rest : List Tk), n + 1 ≤ m →
    blkLoop (stsP len (g + 3) (f + 1)).1 m acc ⟨uTks n o ++ wRb.tk o' :: rest, op, pl, 0⟩ = (acc ++ List.replicate n doN, ⟨wRb.tk o' :: rest, op, pl, 0⟩) := by
  intro n
  induction n with
  | zero =>
    intro m acc o o' op pl rest hm
    obtain ⟨m, rfl⟩ : ∃ k, m = k + 1 := ⟨m - 1, by omega⟩
    rw [uTks, List.nil_append, blkLoop, if_pos (yes_stop _ _ _ _)]
    simp
  | succ n ih =>
    intro m acc o o' op pl rest hm
    obtain ⟨m, rfl⟩ : ∃ k, m = k + 1 := ⟨m - 1, by omega⟩
    rw [blkLoop, if_neg (by rw [no_stopU]; decide)]
    have key : (stsP len (g + 3) (f + 1)).1 ⟨uTks (n + 1) o ++ wRb.tk o' :: rest, op, pl, 0⟩ = (doN, ⟨uTks n (o + 6) ++ wRb.tk o' :: rest, op, pl, 0⟩) := by
      rw [uTks, stsP]
      simp only [List.cons_append]
      exact st_do len g _ _ _ _ _ _ op pl _
    rw [key]
    simp only
    rw [ih m _ _ o' op pl rest (by omega), List.append_assoc]
    rfl
theorem gd_read (n : Nat) (hn : n ≤ 300) : rdP ⟨(gdT n).toArray⟩ 5000 = ([gdM n], ⟨[], 0, 0, 0⟩) := by
  obtain ⟨o, hb⟩ := gd_beg n hn
  unfold rdP
  rw [hb]
  generalize ByteArray.size ⟨(gdT n).toArray⟩ = len
  have hblk : ∀ (o1 : Nat) (A : Nat), (stsP len 5000 5000).2.1 ⟨wLb.tk o1 :: (uTks n A ++ [wRb.tk o]), 0, 0, 0⟩ = (gdB n, ⟨[], 0, 0, 0⟩) := by
    intro o1 A
    rw [show (5000 : Nat) = 4999 + 1 from rfl, stsP]
    simp only
    rw [blk_open len _ _ _ 0 0 _ (by decide) (by decide)]
    have h9 := us_read len 4997 4998 n 5000 [] A o (0 + 1) 0 [] (by omega)
    rw [show (4999 + 1 : Nat) = 5000 from rfl]
    rw [show (4997 + 3 : Nat) = 5000 from rfl, show (4998 + 1 : Nat) = 4999 from rfl] at h9
    rw [h9]
    simp only
    rw [shut_blk len o 0 0 [] (by decide) (by decide)]
    rfl
  have hfun : funP len (stsP len 5000 5000).2.1 5000 ⟨tksAt gdH 0 ++ (uTks n 14 ++ [wRb.tk o]), 0, 0, 0⟩ = (gdM n, ⟨[], 0, 0, 0⟩) := by
    have e : ∀ (bl : Rdr) (ts : List Tk), funP len bl 5000 ⟨tksAt gdH 0 ++ ts, 0, 0, 0⟩ = (⟨⟨#[109, 97, 105, 110]⟩, [], (bl ⟨wLb.tk 12 :: ts, 0, 0, 0⟩).1⟩, (bl ⟨wLb.tk 12 :: ts, 0, 0, 0⟩).2) := by
      intro bl ts
      kernel_rfl
    rw [e, hblk]
    rfl
  rw [show funsP len (stsP len 5000 5000).2.1 5000 5000 = funsP len (stsP len 5000 5000).2.1 5000 (4999 + 1) from rfl, funsP, if_neg (by simp [gdH, tksAt]; omega), hfun]
  rfl

theorem dW_oneG (fs : List PFn) (F : Nat) (d : DK) : dW fs F oneN d = d := by
  cases F with
  | zero => rfl
  | succ F =>
    rw [dW]
    split
    · rfl
    · rfl
theorem dW_do (fs : List PFn) (F : Nat) (d : DK) (he : d.e = 0) : dW fs (F + 2) doN d = d := by
  unfold doN
  rw [dW, if_neg (by simp [he])]
  show dW fs (F + 1) ⟨11, 6, emptyB, 0, [oneN, oneN]⟩ d = _
  rw [dW, if_neg (by simp [he])]
  show dW fs F oneN (dW fs F oneN d) = _
  rw [dW_oneG, dW_oneG]
theorem dW_dos (fs : List PFn) (F : Nat) (d : DK) (he : d.e = 0) : ∀ n, (List.replicate n doN).foldl (fun d x => dW fs (F + 2) x d) d = d := by
  intro n
  induction n with
  | zero => rfl
  | succ n ih => rw [List.replicate_succ, List.foldl_cons, dW_do fs F d he, ih]
theorem gd_doc (n : Nat) : docP [gdM n] = ([⟨0, [], []⟩], 0) := by
  have hz : ∀ n, nszL (List.replicate n doN) = 4 * n := by
    intro n
    induction n with
    | zero => rfl
    | succ n ih => rw [List.replicate_succ, nszL, ih, show nsz doN = 4 from rfl]; omega
  have e : dW [gdM n] (nsz (gdM n).bd) (gdM n).bd ⟨[], 0, 0, [], [], 0⟩ = ⟨[], 0, 0, [], [], 0⟩ := by
    have h1 : nsz (gdM n).bd = 4 * n + 1 := by show nsz ⟨10, 0, emptyB, 0, List.replicate n doN⟩ = _; rw [nsz, hz]; omega
    rw [h1]
    show dW [gdM n] (4 * n + 1) ⟨10, 0, emptyB, 0, List.replicate n doN⟩ _ = _
    have h2 : (List.replicate n doN).foldl (fun d x => dW [gdM n] (4 * n) x d) ⟨[], 0, 0, [], [], 0⟩ = ⟨[], 0, 0, [], [], 0⟩ := by
      cases n with
      | zero => rfl
      | succ n =>
        rw [show 4 * (n + 1) = (4 * n + 2) + 2 by omega]
        exact dW_dos _ _ _ rfl _
    have h3 : dW [gdM n] (4 * n + 1) ⟨10, 0, emptyB, 0, List.replicate n doN⟩ ⟨[], 0, 0, [], [], 0⟩ = { (List.replicate n doN).foldl (fun d x => dW [gdM n] (4 * n) x d) ⟨[], 0, 0, [], [], 0⟩ with see := ((List.replicate n doN).foldl (fun d x => dW [gdM n] (4 * n) x d) ⟨[], 0, 0, [], [], 0⟩).see.take 0 } := by
      rw [dW, if_neg (by simp)]
      rfl
    rw [h3, h2]
    rfl
  have hfn : dFn [gdM n] (gdM n) = (⟨0, [], []⟩, 0) := by
    have hp : prmD (gdM n).ps 0 [] = some [] := rfl
    unfold dFn
    rw [hp]
    simp only
    rw [show ((gdM n).ps.length : Int) = 0 from rfl, e]
    rfl
  have hn : nums [gdM n] 0 [] = some [(⟨#[109, 97, 105, 110]⟩, 0)] := by kernel_rfl
  have hm : mainD [gdM n] = 0 := by kernel_rfl
  unfold docP
  rw [hn]
  simp only
  have hd : dChk [gdM n] [gdM n] [] = ([⟨0, [], []⟩], 0) := by rw [dChk, hfn, if_neg (by simp), dChk]; rfl
  rw [hd, hm]
  rfl
theorem gd_src (n : Nat) (hn : n ≤ 300) : (begP ⟨(gdT n).toArray⟩).ts.length < 5000 ∧ srcP ⟨(gdT n).toArray⟩ 5000 100000 = some ⟨[gdM n], [⟨0, [], []⟩], 0, 0⟩ := by
  obtain ⟨o, hb⟩ := gd_beg n hn
  have hrd := gd_read n hn
  have ht : tooP (rdP ⟨(gdT n).toArray⟩ 5000).1 = false := by rw [hrd]; rfl
  have he : (rdP ⟨(gdT n).toArray⟩ 5000).2.e = 0 := by rw [hrd]
  obtain ⟨hcP, _⟩ := rd_doc ⟨(gdT n).toArray⟩ he ht
  refine ⟨?_, ?_⟩
  · rw [hb]
    simp only [List.length_append, uTks_len]
    show 5 + (4 * n + 1) < 5000
    omega
  · unfold srcP srcQ
    rw [if_neg (by simp [he]), ht, if_neg (by decide), hcP, hrd, gd_doc n]
    rfl

end Go.Proofs.YtlgdjeiendmniaaGreatDoor

namespace Go.Proofs.YtlgdjeiendmniaaGreatDoor
open Go.RowKit

/-- Each instruction leads to the next alone, the last one nowhere; H is the height ahead of each. -/
structure Strt (code : List V.KI) (H : Nat → Int) : Prop where
  pos : 0 < code.length
  nx : ∀ j, j + 1 < code.length → V.kNext code (j : Int) = [((j + 1 : Nat) : Int)]
  last : ∀ j, j + 1 = code.length → V.kNext code (j : Int) = []
  h0 : H 0 = 0
  ge : ∀ j, j < code.length → 0 ≤ H j ∧ H j ≤ 64
  st : ∀ (j : Nat) (i : V.KI), code[j]? = some i → 0 ≤ H j - V.kPops i ∧ (j + 1 < code.length → H (j + 1) = H j - V.kPops i + V.kPush i)
  noT : ∀ (j : Nat) (i : V.KI), code[j]? = some i → ¬ i.op = 12 ∧ ¬ i.op = 9 ∧ ¬ i.op = 7 ∧ ¬ i.op = 8

def rgM (N : Nat) (f : Nat → Int) : List Int := (List.range N).map f
theorem rgM_at {N : Nat} {f : Nat → Int} {j : Nat} (h : j < N) : (rgM N f)[j]? = some (f j) := by simp [rgM, h]
theorem rgM_set {N : Nat} {f g : Nat → Int} {j : Nat} {v : Int} (h : ∀ i, i < N → g i = if i = j then v else f i) : (rgM N f).set j v = rgM N g := by
  apply List.ext_getElem?
  intro i
  rw [List.getElem?_set]
  by_cases hi : i < N
  · rw [rgM_at hi, rgM_at hi, h i hi]
    by_cases hj : j = i
    · subst hj; simp [rgM, hi]
    · rw [if_neg hj, if_neg (Ne.symm hj)]
  · have e1 : (rgM N f)[i]? = none := List.getElem?_eq_none (by simp [rgM]; omega)
    have e2 : (rgM N g)[i]? = none := List.getElem?_eq_none (by simp [rgM]; omega)
    rw [e1, e2]
    split
    · split
      · rename_i h1 h2; simp [rgM] at h2; omega
      · rfl
    · rfl
theorem rgM_eq {N : Nat} {f g : Nat → Int} (h : ∀ i, i < N → f i = g i) : rgM N f = rgM N g := by
  unfold rgM
  apply List.map_congr_left
  intro i hi
  exact h i (List.mem_range.1 hi)
theorem rgM_rep (N : Nat) (v : Int) : List.replicate N v = rgM N (fun _ => v) := by
  unfold rgM
  rw [List.map_const', List.length_range]

section
variable {code : List V.KI} {H : Nat → Int}

def stH (H : Nat → Int) (j : Nat) (i : Nat) : Int := if i ≤ j then H i else -1
theorem run_st (h : Strt code H) : ∀ (d j K : Nat), j + d + 1 = code.length → d + 2 ≤ K → V.kRun code K ⟨rgM code.length (stH H j), [j], false⟩ = some ⟨rgM code.length H, [], false⟩ := by
  intro d
  induction d with
  | zero =>
    intro j K hj hK
    obtain ⟨K, rfl⟩ : ∃ k, K = k + 2 := ⟨K - 2, by omega⟩
    obtain ⟨i, hi⟩ : ∃ i, code[j]? = some i := ⟨_, List.getElem?_eq_getElem (by omega)⟩
    rw [V.kRun, if_neg (by simp)]
    simp only
    unfold V.kLeave
    rw [hi]
    simp only
    rw [rgM_at (by omega)]
    simp only
    have hst := (h.st j i hi).1
    have e : stH H j j = H j := by simp [stH]
    rw [e, if_neg (by omega), h.last j (by omega), V.kComes, V.kRun, if_neg (by simp)]
    simp only
    rw [rgM_eq (g := H) (fun i hi => by unfold stH; rw [if_pos (by omega)])]
  | succ d ih =>
    intro j K hj hK
    obtain ⟨K, rfl⟩ : ∃ k, K = k + 1 := ⟨K - 1, by omega⟩
    obtain ⟨i, hi⟩ : ∃ i, code[j]? = some i := ⟨_, List.getElem?_eq_getElem (by omega)⟩
    rw [V.kRun, if_neg (by simp)]
    simp only
    have hst := h.st j i hi
    have hh := hst.2 (by omega)
    have hg := h.ge (j + 1) (by omega)
    have e : stH H j j = H j := by simp [stH]
    have key : V.kLeave code ⟨rgM code.length (stH H j), [], false⟩ j = ⟨rgM code.length (stH H (j + 1)), [j + 1], false⟩ := by
      unfold V.kLeave
      rw [hi]
      simp only
      rw [rgM_at (by omega)]
      simp only
      rw [e, if_neg (by omega), h.nx j (by omega), V.kComes, V.kComes, ← hh]
      unfold V.kCome
      rw [if_neg (by omega), show (((j + 1 : Nat) : Int)).toNat = j + 1 by omega]
      simp only
      rw [rgM_at (by omega)]
      simp only
      have e2 : stH H j (j + 1) = -1 := by unfold stH; rw [if_neg (by omega)]
      rw [e2, if_pos rfl, rgM_set (g := stH H (j + 1)) (fun i hi => by
        unfold stH
        by_cases h1 : i = j + 1
        · subst h1; rw [if_pos (by omega), if_pos rfl]
        · rw [if_neg h1]
          by_cases h2 : i ≤ j
          · rw [if_pos (by omega), if_pos h2]
          · rw [if_neg (by omega), if_neg h2])]
    rw [key]
    exact ih (j + 1) K (by omega) (by omega)
theorem hts_st (h : Strt code H) (K : Nat) (hK : code.length + 1 ≤ K) : V.kHts code K = some (some (rgM code.length H)) := by
  have hp := h.pos
  have e : V.kCome code.length ⟨List.replicate code.length (-1), [], false⟩ 0 0 = ⟨rgM code.length (stH H 0), [0], false⟩ := by
    unfold V.kCome
    rw [if_neg (by omega), rgM_rep]
    simp only [Int.toNat_zero]
    rw [rgM_at (by omega)]
    simp only
    rw [if_pos trivial, rgM_set (g := stH H 0) (fun i hi => by
      unfold stH
      by_cases h1 : i = 0
      · subst h1; rw [if_pos (by omega), if_pos rfl, h.h0]
      · rw [if_neg h1, if_neg (by omega)])]
  unfold V.kHts
  rw [e, run_st h (code.length - 1) 0 K (by omega) (by omega)]
  rfl
theorem cnt_st (h : Strt code H) {j : Nat} (hj : j < code.length) : V.kCnt code (rgM code.length H) j = some true := by
  obtain ⟨i, hi⟩ : ∃ i, code[j]? = some i := ⟨_, List.getElem?_eq_getElem hj⟩
  unfold V.kCnt
  rw [rgM_at hj, hi]
  simp only
  have h1 := h.ge j hj
  have h2 := (h.noT j i hi).1
  rw [decide_eq_true (by omega), decide_eq_true h2]
  rfl
theorem call_st (h : Strt code H) {j : Nat} (hj : j < code.length) : V.kCallT code j = some true := by
  obtain ⟨i, hi⟩ : ∃ i, code[j]? = some i := ⟨_, List.getElem?_eq_getElem hj⟩
  unfold V.kCallT
  rw [hi]
  simp only
  obtain ⟨_, h2, h3, h4⟩ := h.noT j i hi
  rw [if_neg h2, if_neg (by omega)]
theorem tkL_st (h : Strt code H) : ∀ m j, j + m = code.length → V.kTkL code (rgM code.length H) m j = some true := by
  intro m
  induction m with
  | zero => intro j _; rfl
  | succ m ih =>
    intro j hj
    rw [V.kTkL, rgM_at (by omega)]
    simp only
    have := h.ge j (by omega)
    rw [if_neg (by omega), call_st h (by omega)]
    simp only
    rw [if_pos trivial]
    exact ih (j + 1) (by omega)
def inA (j i : Nat) : Int := if 1 ≤ i ∧ i ≤ j then 1 else 0
theorem l1_st (h : Strt code H) : ∀ m j, j + m = code.length → V.kL1 code (rgM code.length H) m j (j : Int) (rgM code.length (inA j)) = some ((code.length : Int), rgM code.length (inA code.length)) := by
  intro m
  induction m with
  | zero => intro j hj; rw [V.kL1, show j = code.length by omega]
  | succ m ih =>
    intro j hj
    rw [V.kL1, cnt_st h (by omega)]
    simp only
    by_cases hl : j + 1 = code.length
    · rw [h.last j hl, V.kAdd]
      simp only
      have e : rgM code.length (inA j) = rgM code.length (inA (j + 1)) := rgM_eq (fun i hi => by
        unfold inA
        by_cases h1 : 1 ≤ i ∧ i ≤ j
        · rw [if_pos h1, if_pos (by omega)]
        · rw [if_neg h1, if_neg (by omega)])
      rw [e]
      exact ih (j + 1) (by omega)
    · rw [h.nx j (by omega), V.kAdd, if_neg (by omega), show (((j + 1 : Nat) : Int)).toNat = j + 1 by omega, rgM_at (by omega)]
      simp only
      have e2 : inA j (j + 1) = 0 := by unfold inA; rw [if_neg (by omega)]
      rw [e2, if_pos (by omega), V.kAdd, rgM_set (g := inA (j + 1)) (fun i hi => by
        unfold inA
        by_cases h1 : i = j + 1
        · subst h1; rw [if_pos (by omega), if_pos rfl]; rfl
        · rw [if_neg h1]
          by_cases h2 : 1 ≤ i ∧ i ≤ j
          · rw [if_pos (by omega), if_pos h2]
          · rw [if_neg (by omega), if_neg h2])]
      exact ih (j + 1) (by omega)
theorem l2_st (h : Strt code H) : ∀ m j, j + m = code.length → 1 ≤ j → V.kL2 code (rgM code.length H) (rgM code.length (inA code.length)) m j [0] = some [0] := by
  intro m
  induction m with
  | zero => intro j _ _; rfl
  | succ m ih =>
    intro j hj h1
    rw [V.kL2, cnt_st h (by omega)]
    simp only
    rw [rgM_at (by omega)]
    simp only
    have e : inA code.length j = 1 := by unfold inA; rw [if_pos (by omega)]
    rw [e, if_neg (by decide)]
    exact ih (j + 1) (by omega) (by omega)
def inB (j i : Nat) : Int := if j < i then 1 else 0
theorem l4_st (h : Strt code H) (hb : code.length ≤ 1000000) : ∀ (d j K : Nat), j + d + 1 = code.length → d + 2 ≤ K → V.kL4 code (rgM code.length H) K ((code.length : Int) - j) (rgM code.length (inB j)) [j] = some 0 := by
  intro d
  induction d with
  | zero =>
    intro j K hj hK
    obtain ⟨K, rfl⟩ : ∃ k, K = k + 2 := ⟨K - 2, by omega⟩
    rw [V.kL4]
    rw [if_pos (by omega), h.last j (by omega), V.kSub]
    simp only
    rw [V.kL4]
    congr 1
    omega
  | succ d ih =>
    intro j K hj hK
    obtain ⟨K, rfl⟩ : ∃ k, K = k + 1 := ⟨K - 1, by omega⟩
    rw [V.kL4]
    rw [if_pos (by omega), h.nx j (by omega), V.kSub, if_neg (by omega), show (((j + 1 : Nat) : Int)).toNat = j + 1 by omega, rgM_at (by omega)]
    simp only
    have e2 : inB j (j + 1) = 1 := by unfold inB; rw [if_pos (by omega)]
    rw [e2, if_pos (by omega), if_pos (by omega), cnt_st h (by omega)]
    simp only
    rw [V.kSub]
    simp only
    rw [if_pos trivial, rgM_set (g := inB (j + 1)) (fun i hi => by
      unfold inB
      by_cases h1 : i = j + 1
      · subst h1; rw [if_neg (by omega), if_pos rfl]; rfl
      · rw [if_neg h1]
        by_cases h2 : j < i
        · rw [if_pos (by omega), if_pos h2]
        · rw [if_neg (by omega), if_neg h2])]
    have := ih (j + 1) K (by omega) (by omega)
    rw [show (code.length : Int) - j - 1 = (code.length : Int) - ((j + 1 : Nat) : Int) by omega]
    exact this
theorem cyc_st (h : Strt code H) (hb : code.length ≤ 1000000) (K : Nat) (hK : code.length + 1 ≤ K) : V.kCyc code (rgM code.length H) K = some false := by
  have hp := h.pos
  unfold V.kCyc
  have e0 : List.replicate code.length (0 : Int) = rgM code.length (inA 0) := by
    rw [rgM_rep]
    exact rgM_eq (fun i hi => by unfold inA; rw [if_neg (by omega)])
  rw [e0, show V.kL1 code (rgM code.length H) code.length 0 0 (rgM code.length (inA 0)) = some ((code.length : Int), rgM code.length (inA code.length)) from l1_st h code.length 0 (by omega)]
  simp only
  have e1 : V.kL2 code (rgM code.length H) (rgM code.length (inA code.length)) code.length 0 [] = some [0] := by
    obtain ⟨m, hm⟩ : ∃ m, code.length = m + 1 := ⟨code.length - 1, by omega⟩
    have e2 : ∀ q, q = m + 1 → V.kL2 code (rgM code.length H) (rgM code.length (inA code.length)) q 0 [] = some [0] := by
      intro q hq
      subst hq
      rw [V.kL2, cnt_st h hp]
      simp only
      rw [rgM_at hp]
      simp only
      rw [show inA code.length 0 = 0 from rfl, if_pos rfl]
      exact l2_st h m (0 + 1) (by omega) (by omega)
    exact e2 _ hm
  rw [e1]
  simp only
  have e3 : rgM code.length (inA code.length) = rgM code.length (inB 0) := rgM_eq (fun i hi => by
    unfold inA inB
    by_cases h1 : 0 < i
    · rw [if_pos (by omega), if_pos h1]
    · rw [if_neg (by omega), if_neg h1])
  rw [e3]
  have := l4_st h hb (code.length - 1) 0 K (by omega) (by omega)
  rw [show (code.length : Int) = (code.length : Int) - ((0 : Nat) : Int) by simp, this]
  rfl
theorem tick_st (h : Strt code H) (hb : code.length ≤ 1000000) (K : Nat) (hK : code.length + 1 ≤ K) : V.kTicked code (rgM code.length H) K = some true := by
  unfold V.kTicked
  rw [tkL_st h code.length 0 (by omega)]
  simp only
  rw [if_pos trivial, cyc_st h hb K hK]
  rfl
theorem virt_st (f : V.KF) (hc : f.code = code) (h : Strt code H) (K : Nat) (hK : code.length + 1 ≤ K) (hf : V.kForm [f] 0 = true) (hl : f.lc = 0) (hb : code.length ≤ 1000) : ∃ v, V.kVirt [f] 0 K = some (v, 0) := by
  have hg : V.kHgt [f] 0 K = some (rgM code.length H, 0) := by
    unfold V.kHgt
    rw [if_pos hf]
    simp only [Int.toNat_zero, List.getElem?_cons_zero]
    rw [hc, hts_st h K hK]
    simp only
    rw [tick_st h (by omega) K hK]
    rfl
  refine ⟨0 + V.kMost (rgM code.length H) 0, ?_⟩
  unfold V.kVirt
  rw [hg]
  simp only [Int.toNat_zero, List.getElem?_cons_zero, if_true]
  rw [hl, if_neg]
  have := V.kMost_b (l := rgM code.length H) (fun x hx => by
    unfold rgM at hx
    obtain ⟨j, hj, rfl⟩ := List.mem_map.1 hx
    have := h.ge j (List.mem_range.1 hj)
    omega) 0 (by omega) (by omega)
  omega
end

end Go.Proofs.YtlgdjeiendmniaaGreatDoor
