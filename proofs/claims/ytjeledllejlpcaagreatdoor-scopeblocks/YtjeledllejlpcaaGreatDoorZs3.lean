/- The words of a text, read off what is left of it: the same as lexF, in fewer steps. · The words of a text in which a blank stands behind each word (for ScopeBlocks). · All words of a text. · Reading a program, as plain functions: the words that are still to be read, how much is open, the first fault. -/
import Derived.Test.YtjeledllejlpcaaGreatDoorZs2
set_option linter.unusedSimpArgs false
set_option linter.unusedVariables false
set_option maxRecDepth 10000

namespace Go.Proofs.YtjeledllejlpcaaGreatDoor
open Go.RowKit

/-- The word at the front: its kind, its text, its number, its length. -/
def numL (l : List UInt8) (d : Nat) : Option (Int × List UInt8 × Int × Nat) :=
  if 9223372036854775807 < dv 0 (l.take d) then none
  else if l[d]? == some 105 then (if (l[d + 1]?.map nm).getD false then none else some (4, [], dv 0 (l.take d), d + 1))
  else (if (l[d]?.map nm).getD false then none else some (3, [], dv 0 (l.take d), d))
def nameL (l : List UInt8) (r : Nat) : Option (Int × List UInt8 × Int × Nat) :=
  if 16 < r then none else some (if wordL (l.take r) then 2 else 1, l.take r, 0, r)
def textL (f : Nat) (l : List UInt8) : Option (Int × List UInt8 × Int × Nat) := (txF f l).map fun p => (5, p.1, 0, 1 + p.2)
def opLL (l : List UInt8) (r : Nat) : Option (Int × List UInt8 × Int × Nat) := if r = 0 then none else some (6, l.take r, 0, r)
def tokL (f : Nat) : List UInt8 → Option (Int × List UInt8 × Int × Nat)
  | [] => none
  | c :: r => if dg c then numL (c :: r) (run dg (c :: r)) else if nm c then nameL (c :: r) (run nm (c :: r)) else if c.toNat = 34 then textL f r else opLL (c :: r) (opL (c :: r))
/-- The word, as tokT tells it. -/
def upT (o : Nat) (q : Int × List UInt8 × Int × Nat) : Int × ByteArray × Int × Nat := (q.1, ⟨q.2.1.toArray⟩, q.2.2.1, o + q.2.2.2)

theorem ext_mk (s : ByteArray) (o r : Nat) : s.extract o (o + r) = ⟨(((L s).drop o).take r).toArray⟩ := by
  apply L_inj
  rw [L_extract, Nat.add_sub_cancel_left]
  exact (L_mk _).symm

theorem tokT_L (s : ByteArray) (o : Nat) : tokT s o = (tokL (s.size + 1) ((L s).drop o)).map (upT o) := by
  unfold tokT
  have hd : (L s)[o]? = ((L s).drop o)[0]? := by rw [List.getElem?_drop]; rfl
  have ht : (L s).drop (o + 1) = ((L s).drop o).drop 1 := by rw [List.drop_drop]
  have hg : ∀ k, (L s)[o + k]? = ((L s).drop o)[k]? := fun k => by rw [List.getElem?_drop]
  have hx := ext_mk s o
  unfold numT nameT textT opT nv isI nmAt nd
  rw [hd, ht, hg, Nat.add_assoc, hg, hx, hx]
  generalize (L s).drop o = l
  cases l with
  | nil => rfl
  | cons c r =>
    show (if dg c = true then _ else _) = _
    rw [tokL]
    by_cases h1 : dg c = true
    · rw [if_pos h1, if_pos h1]
      unfold numL
      (repeat' split) <;> simp_all [upT] <;> rfl
    · rw [if_neg h1, if_neg h1]
      by_cases h2 : nm c = true
      · rw [if_pos h2, if_pos h2]
        unfold nameL
        split <;> simp_all [upT]
      · rw [if_neg h2, if_neg h2]
        by_cases h3 : c.toNat = 34
        · rw [if_pos h3, if_pos h3]
          unfold textL
          rw [List.drop_succ_cons, List.drop_zero, Option.map_map]
          congr 1
          funext p
          simp [upT, Nat.add_assoc]
        · rw [if_neg h3, if_neg h3]
          unfold opLL
          split <;> simp_all [upT]

/-- The words of what is left, from the place o on. -/
def lexL (F : Nat) : Nat → List UInt8 → Nat → List Tk × Option Nat
  | 0, _, _ => ([], some 0)
  | f + 1, l, o => match l.drop (skp false l) with
    | [] => ([], none)
    | c :: r => match tokL F (c :: r) with
      | none => ([], some (o + skp false l))
      | some (k, t, n, m) => (⟨k, ⟨t.toArray⟩, n, o + skp false l⟩ :: (lexL F f ((c :: r).drop m) (o + skp false l + m)).1, (lexL F f ((c :: r).drop m) (o + skp false l + m)).2)

theorem lexF_L (s : ByteArray) : ∀ (f o : Nat), o ≤ s.size → lexF f s o = lexL (s.size + 1) f ((L s).drop o) o := by
  intro f
  induction f with
  | zero => intro o _; rfl
  | succ f ih =>
    intro o ho
    rw [lexF, lexL]
    have hdd : ((L s).drop o).drop (skp false ((L s).drop o)) = (L s).drop (o + skp false ((L s).drop o)) := by rw [List.drop_drop]
    have hsk : skp false ((L s).drop o) ≤ s.size - o := by
      have := skp_le ((L s).drop o) false
      rw [List.length_drop, L_len] at this
      exact this
    generalize skp false ((L s).drop o) = k at *
    rw [hdd, tokT_L]
    by_cases hz : s.size ≤ o + k
    · rw [if_pos hz, L_end s _ hz]
    · rw [if_neg hz, L_drop s (o + k) (by omega)]
      have hdr := L_drop s (o + k) (by omega)
      show (match Option.map (upT (o + k)) (tokL (s.size + 1) (s[o + k] :: (L s).drop (o + k + 1))) with | none => _ | some (k_1, t, n, m) => _) = (match tokL (s.size + 1) (s[o + k] :: (L s).drop (o + k + 1)) with | none => _ | some (k_1, t, n, m) => _)
      rw [← hdr]
      cases ht : tokL (s.size + 1) ((L s).drop (o + k)) with
      | none => rfl
      | some q =>
        obtain ⟨a, t, n, m⟩ := q
        have hm : o + k + m ≤ s.size := (tok_lt s (o + k) a ⟨t.toArray⟩ n (o + k + m) (by rw [tokT_L, ht]; rfl)).2
        show (_ :: (lexF f s (o + k + m)).1, (lexF f s (o + k + m)).2) = _
        rw [ih _ hm]
        simp only [List.drop_drop]

end Go.Proofs.YtjeledllejlpcaaGreatDoor

namespace Go.Proofs.YtjeledllejlpcaaGreatDoor
open Go.RowKit

/-- A word: its bytes, and what the lexer tells of it. -/
structure Wd where
  b : List UInt8
  k : Int
  t : List UInt8
  n : Int
/-- It is read as it says wherever a blank follows. -/
structure Wd.Ok (F : Nat) (w : Wd) : Prop where
  pos : 0 < w.b.length
  tok : ∀ rest, tokL F (w.b ++ 32 :: rest) = some (w.k, w.t, w.n, w.b.length)
  skp : ∀ rest, skp false (w.b ++ rest) = 0
def Wd.tk (w : Wd) (o : Nat) : Tk := ⟨w.k, ⟨w.t.toArray⟩, w.n, o⟩
def tksAt : List Wd → Nat → List Tk
  | [], _ => []
  | w :: ws, o => w.tk o :: tksAt ws (o + w.b.length + 1)
def wTxt : List Wd → List UInt8
  | [] => []
  | w :: ws => w.b ++ 32 :: wTxt ws
theorem wTxt_append : ∀ (a b : List Wd), wTxt (a ++ b) = wTxt a ++ wTxt b
  | [], b => rfl
  | w :: a, b => by rw [List.cons_append, wTxt, wTxt, wTxt_append a b]; simp

theorem lex_blank (F f : Nat) (rest : List UInt8) (o : Nat) : lexL F (f + 1) (32 :: rest) o = lexL F (f + 1) rest (o + 1) := by
  rw [lexL, lexL]
  have h : skp false (32 :: rest) = 1 + skp false rest := by rw [skp, if_pos (by decide)]
  rw [h, Nat.add_comm 1, List.drop_succ_cons]
  have e : o + (skp false rest + 1) = o + 1 + skp false rest := by omega
  rw [e]
theorem lex_word {F f : Nat} {w : Wd} (h : w.Ok F) (rest : List UInt8) (o : Nat) : lexL F (f + 2) (w.b ++ 32 :: rest) o = (w.tk o :: (lexL F (f + 1) rest (o + w.b.length + 1)).1, (lexL F (f + 1) rest (o + w.b.length + 1)).2) := by
  rw [lexL, h.skp, List.drop_zero, Nat.add_zero]
  have ht := h.tok rest
  have hd : (w.b ++ 32 :: rest).drop w.b.length = 32 :: rest := by simp
  cases hl : w.b ++ 32 :: rest with
  | nil => simp at hl
  | cons c r =>
    rw [hl] at ht hd
    simp only
    rw [ht]
    simp only
    rw [hd, lex_blank]
    rfl
theorem lex_words {F : Nat} : ∀ (ws : List Wd) (f : Nat) (tail : List UInt8) (o : Nat), (∀ w ∈ ws, w.Ok F) → lexL F (f + 1 + ws.length) (wTxt ws ++ tail) o = (tksAt ws o ++ (lexL F (f + 1) tail (o + (wTxt ws).length)).1, (lexL F (f + 1) tail (o + (wTxt ws).length)).2)
  | [], f, tail, o, h => by simp [wTxt, tksAt]
  | w :: ws, f, tail, o, h => by
    have e : f + 1 + (w :: ws).length = (f + ws.length) + 2 := by simp; omega
    rw [e, wTxt, List.append_assoc, List.cons_append, lex_word (h w (by simp)), show f + ws.length + 1 = f + 1 + ws.length by omega, lex_words ws f tail _ (fun x hx => h x (by simp [hx]))]
    have e2 : o + w.b.length + 1 + (wTxt ws).length = o + (w.b ++ 32 :: wTxt ws).length := by simp; omega
    rw [e2, tksAt]
    rfl
theorem lex_shut (F f o : Nat) : lexL F (f + 2) [125] o = ([⟨6, ⟨#[125]⟩, 0, o⟩], none) := by
  rfl

/-- The words that ScopeBlocks puts into its text. -/
def wFn : Wd := ⟨[102, 110], 2, [102, 110], 0⟩
def wMain : Wd := ⟨[109, 97, 105, 110], 1, [109, 97, 105, 110], 0⟩
def wOp : Wd := ⟨[40], 6, [40], 0⟩
def wCl : Wd := ⟨[41], 6, [41], 0⟩
def wLb : Wd := ⟨[123], 6, [123], 0⟩
def wRb : Wd := ⟨[125], 6, [125], 0⟩
def wIf : Wd := ⟨[105, 102], 2, [105, 102], 0⟩
def wOne : Wd := ⟨[49], 3, [], 1⟩
def wLet : Wd := ⟨[108, 101, 116], 2, [108, 101, 116], 0⟩
def wX : Wd := ⟨[120], 1, [120], 0⟩
def wEq : Wd := ⟨[61], 6, [61], 0⟩
def wSe : Wd := ⟨[59], 6, [59], 0⟩
def wPr : Wd := ⟨[112, 114, 105, 110, 116], 2, [112, 114, 105, 110, 116], 0⟩
theorem wFn_ok (F : Nat) : wFn.Ok F := ⟨by decide, fun _ => rfl, fun _ => rfl⟩
theorem wMain_ok (F : Nat) : wMain.Ok F := ⟨by decide, fun _ => rfl, fun _ => rfl⟩
theorem wOp_ok (F : Nat) : wOp.Ok F := ⟨by decide, fun _ => rfl, fun _ => rfl⟩
theorem wCl_ok (F : Nat) : wCl.Ok F := ⟨by decide, fun _ => rfl, fun _ => rfl⟩
theorem wLb_ok (F : Nat) : wLb.Ok F := ⟨by decide, fun _ => rfl, fun _ => rfl⟩
theorem wRb_ok (F : Nat) : wRb.Ok F := ⟨by decide, fun _ => rfl, fun _ => rfl⟩
theorem wIf_ok (F : Nat) : wIf.Ok F := ⟨by decide, fun _ => rfl, fun _ => rfl⟩
theorem wOne_ok (F : Nat) : wOne.Ok F := ⟨by decide, fun _ => rfl, fun _ => rfl⟩
theorem wLet_ok (F : Nat) : wLet.Ok F := ⟨by decide, fun _ => rfl, fun _ => rfl⟩
theorem wX_ok (F : Nat) : wX.Ok F := ⟨by decide, fun _ => rfl, fun _ => rfl⟩
theorem wEq_ok (F : Nat) : wEq.Ok F := ⟨by decide, fun _ => rfl, fun _ => rfl⟩
theorem wSe_ok (F : Nat) : wSe.Ok F := ⟨by decide, fun _ => rfl, fun _ => rfl⟩
theorem wPr_ok (F : Nat) : wPr.Ok F := ⟨by decide, fun _ => rfl, fun _ => rfl⟩

end Go.Proofs.YtjeledllejlpcaaGreatDoor

namespace Go.Proofs.YtjeledllejlpcaaGreatDoor
open Go.RowKit

theorem add0 (g j : Nat) : (⟨g, 0, none⟩ : Addr).add j = ⟨g, j, none⟩ := by unfold Addr.add; split <;> simp_all
theorem cells_new (w : World) (cs : Array Value) (t : TypeId) : ∀ j u, cs.toList[j]? = some u → (w.alloc (.cells cs t)).cell? ((⟨w.heap.size, 0, none⟩ : Addr).add j) = some u := by
  intro j u hu
  rw [add0]
  exact cell_box w cs t j (by simpa using hu)
theorem size_alloc (w : World) (o : Obj) : (w.alloc o).heap.size = w.heap.size + 1 := Array.size_push ..
theorem cells_new2 (w : World) (o : Obj) (cs : Array Value) (t : TypeId) : ∀ j u, cs.toList[j]? = some u → ((w.alloc o).alloc (.cells cs t)).cell? ((⟨w.heap.size + 1, 0, none⟩ : Addr).add j) = some u := by
  have := cells_new (w.alloc o) cs t
  rw [size_alloc] at this
  exact this
theorem ext_grown {a b : World} {r : Option Nat} (h : Ext a b) : a.grownBy b r := ⟨h.os, h.tape, h.output, h.size, fun k hk _ => h.block k hk⟩
theorem own_ext {a b : World} {base : Nat} {e : TypeId} {size : Nat} {v : Value} {n : Nat} {xs : List Value} (h : a.ownsRow base e size v n xs) (k : Ext a b) : b.ownsRow base e size v n xs :=
  h.kept (ext_grown (r := none) k) (by cases v.ownBlock with | none => exact Or.inl rfl | some x => exact Or.inr (by simp))
theorem infoTok : (Tryz.prog.info? 81).map (fun i => (i.zero, i.size, i.bytes)) = some (some (tokV 0 ⟨#[]⟩ 0 0), 4, 40) := by kernel_rfl

/-- What holds at the label: the words so far, in a row of the call's own. -/
structure LI (s : ByteArray) (W wr : World) (k f : Nat) (acc : List Tk) (v : Value) : Prop where
  eq : lexF (s.size + 1) s 0 = (acc ++ (lexF f s k).1, (lexF f s k).2)
  fuel : s.size - k < f
  len : acc.length ≤ k
  own : wr.ownsRow W.heap.size 81 4 v acc.length (acc.flatMap tkC)
  ext : Ext W wr

theorem LI.start (s : ByteArray) (W : World) : LI s W W 0 (s.size + 1) [] (.slice none 0 0) :=
  ⟨by simp, by omega, Nat.le_refl _, World.ownsRow_nil W _ _ _, Ext.refl _⟩

theorem LI.done {s : ByteArray} {W wr : World} {k f : Nat} {acc : List Tk} {v : Value} (h : LI s W wr k f acc v) (hb : s.size ≤ k + skp false ((L s).drop k)) : lexF (s.size + 1) s 0 = (acc, none) := by
  have hf := h.fuel
  obtain ⟨g, rfl⟩ : ∃ g, f = g + 1 := ⟨f - 1, by omega⟩
  rw [h.eq, lexF, if_pos hb]
  simp

theorem LI.bad {s : ByteArray} {W wr : World} {k f : Nat} {acc : List Tk} {v : Value} (h : LI s W wr k f acc v) (hb : k + skp false ((L s).drop k) < s.size) (ht : tokT s (k + skp false ((L s).drop k)) = none) : lexF (s.size + 1) s 0 = (acc, some (k + skp false ((L s).drop k))) := by
  have hf := h.fuel
  obtain ⟨g, rfl⟩ : ∃ g, f = g + 1 := ⟨f - 1, by omega⟩
  rw [h.eq, lexF, if_neg (by omega), ht]
  simp

theorem LI.next {s : ByteArray} {W wr w1 w2 : World} {k f : Nat} {acc : List Tk} {v v' : Value} {kd : Int} {t : ByteArray} {n : Int} {m : Nat} (h : LI s W wr k f acc v) (hb : k + skp false ((L s).drop k) < s.size) (ht : tokT s (k + skp false ((L s).drop k)) = some (kd, t, n, m))
    (hx : Ext wr w1) (hown' : w2.ownsRow W.heap.size 81 4 v' (acc.length + 1) (acc.flatMap tkC ++ [.int .i64 kd, .string t, .int .i64 n, .int .i64 ((k + skp false ((L s).drop k) : Nat) : Int)])) (hgrow : w1.grownBy w2 v.ownBlock) :
    LI s W w2 m (f - 1) (acc ++ [⟨kd, t, n, k + skp false ((L s).drop k)⟩]) v' := by
  have hf := h.fuel
  have hm := tok_lt s _ _ _ _ _ ht
  refine ⟨?_, by omega, ?_, ?_, ?_⟩
  · obtain ⟨g, rfl⟩ : ∃ g, f = g + 1 := ⟨f - 1, by omega⟩
    rw [h.eq, lexF, if_neg (by omega), ht]
    simp
  · rw [List.length_append]; have := h.len; simp; omega
  · rw [List.length_append, List.flatMap_append]; exact hown'
  · refine Below.grown (h.ext.trans hx) hgrow (h.ext.trans hx).le ?_
    intro j hj
    obtain ⟨_, h | ⟨g, cap, cur, h, hg, _⟩⟩ := h.own
    · rw [h.1] at hj; cases hj
    · rw [h] at hj; cases hj; exact hg

/-- What Tokens answers, in a row of the call's own. -/
def ToksIn (s : ByteArray) (w : World) (e : Ending) (w' : World) : Prop :=
  (4000 < s.size ∧ e = .returned (.tuple #[.slice none 0 0, .int .i64 0, .int .i64 2]) ∧ Ext w w') ∨
  (s.size ≤ 4000 ∧ ∃ b, (lexF (s.size + 1) s 0).2 = some b ∧ e = .returned (.tuple #[.slice none 0 0, .int .i64 (b : Nat), .int .i64 10]) ∧ Ext w w') ∨
  (s.size ≤ 4000 ∧ (lexF (s.size + 1) s 0).2 = none ∧ ∃ v, e = .returned (.tuple #[v, .int .i64 0, .int .i64 0]) ∧ w'.ownsRow w.heap.size 81 4 v (lexF (s.size + 1) s 0).1.length ((lexF (s.size + 1) s 0).1.flatMap tkC) ∧ Ext w w')

set_option maxHeartbeats 4000000 in
theorem tokens_any (s : ByteArray) (w : World) (he : Er w) (hmax : s.size ≤ 140737488355328) :
    Calls Tryz.prog 17 #[.string s] w (ToksIn s w) := by
  by_cases hs : 4000 < s.size
  · go_enter Tryz.func17, Tryz.ntmps17
    go_wp2
    go_step3
    go_wp2
    try rw [Exit.noGoto_ret]
    go_ret3
    exact Or.inl ⟨hs, rfl, Ext.refl _⟩
  · have hs : s.size ≤ 4000 := by omega
    clear hmax
    obtain ⟨i0, hi, hz0, hz1, hz2⟩ := info_parts infoTok
    have HI := hide hi
    have Z0 := hide hz0
    have Z1 := hide hz1
    have Z2 := hide hz2
    have HE := hide he
    clear hi hz0 hz1 hz2 he
    obtain ⟨PQ, hPQ⟩ : ∃ PQ : Ending → World → Prop, PQ = ToksIn s w := ⟨_, rfl⟩
    rw [← hPQ]
    have HPQ := hide hPQ
    clear hPQ
    go_enter Tryz.func17, Tryz.ntmps17
    go_wp2
    refine wp_scope_loop 0 (fun a' wr => ∃ (k : Nat) (i : Int) (f : Nat) (acc : List Tk) (v : Value) (u5 u6 u7 u8 u9 u10 u11 u12 u13 u14 u15 u16 u17 u18 u19 u20 u21 u22 u23 u24 u25 u26 u27 u28 u29 u30 u31 u32 u33 : Value), a' = { tmps := #[.string s, undef, v, .int .i64 i, .int .i64 0, u5, u6, u7, u8, u9, u10, u11, u12, u13, u14, u15, u16, u17, u18, u19, u20, u21, u22, u23, u24, u25, u26, u27, u28, u29, u30, u31, u32, u33], defers := [] } ∧ i = k ∧ k ≤ s.size ∧ Hd (LI s w wr k f acc v)) (fun a' _ => s.size - (intOf (a'.tmps.getD 3 undef)).toNat) rfl ?_ ?_
    · rintro a' wr ⟨k, i, f, acc, v, u5, u6, u7, u8, u9, u10, u11, u12, u13, u14, u15, u16, u17, u18, u19, u20, u21, u22, u23, u24, u25, u26, u27, u28, u29, u30, u31, u32, u33, rfl, rfl, hk, hI⟩
      have HB := hide (fun W => begin_any s k W hk (by omega))
      have hle := skp_le ((L s).drop k) false
      rw [List.length_drop, L_len] at hle
      by_cases hb : s.size ≤ k + skp false ((L s).drop k)
      · have hD := hide ((unhide hI).done hb)
        have hend : ((k : Int) + (skp false ((L s).drop k) : Nat) == (s.size : Int)) = true := by simp; omega
        clear hb
        generalize skp false ((L s).drop k) = j at hle HB hend
        go_wp2_with (go_at_call 25; refine Calls.mono (unhide HB _) ?_; rintro e w1 ⟨rfl, hw⟩; obtain rfl := hw.symm)
        simp only [Exit.jump]
        go_ret3
        rw [unhide HPQ]
        have D := unhide hD
        refine Or.inr (Or.inr ⟨hs, by rw [D], v, rfl, ?_, (unhide hI).ext⟩)
        rw [D]
        exact (unhide hI).own
      · have hend : ((k : Int) + (skp false ((L s).drop k) : Nat) == (s.size : Int)) = false := by simp; omega
        have hlt : k + skp false ((L s).drop k) < s.size := by omega
        have HT := hide (fun W (x : Ext w W) => token_any s (k + skp false ((L s).drop k)) W hlt (by omega) ((unhide HE).on x))
        clear hb
        cases hT : tokT s (k + skp false ((L s).drop k)) with
        | none =>
          have hD := hide ((unhide hI).bad hlt hT)
          rw [hT] at HT
          clear hT
          unfold Tells at HT
          generalize skp false ((L s).drop k) = j at hle HB HT hD hlt hend
          go_wp2_with (first
            | (go_at_call 25; refine Calls.mono (unhide HB _) ?_; rintro e w1 ⟨rfl, hw⟩; obtain rfl := hw.symm)
            | (go_at_call 26; refine Calls.mono (unhide HT _ (unhide hI).ext) ?_; rintro e w1 ⟨rfl, hw⟩; have X1 := hide ((unhide hI).ext.trans hw); clear hw))
          simp only [Exit.jump]
          go_ret3
          rw [unhide HPQ]
          exact Or.inr (Or.inl ⟨hs, _, by rw [unhide hD], rfl, (unhide X1).trans (Ext.alloc _ _)⟩)
        | some q =>
          obtain ⟨kd, t, n, m⟩ := q
          have hm := tok_lt s _ _ _ _ _ hT
          have HN := hide (fun v' w1 w2 => (unhide hI).next (v' := v') (w1 := w1) (w2 := w2) hlt hT)
          rw [hT] at HT
          clear hT
          unfold Tells at HT
          generalize skp false ((L s).drop k) = j at hle HB HT HN hm hlt hend
          go_wp2_with (first
            | (go_at_call 25; refine Calls.mono (unhide HB _) ?_; rintro e w1 ⟨rfl, hw⟩; obtain rfl := hw.symm)
            | (go_at_call 26; refine Calls.mono (unhide HT _ (unhide hI).ext) ?_; rintro e w1 ⟨rfl, hw⟩; have X1 := hide hw; clear hw)
            | (at_builtin; refine wpList_append_own _ rfl _ _ 41 rfl w.heap.size 81 i0 (tokV 0 ⟨#[]⟩ 0 0) 4 40 Tryz.underlying41 (unhide HI) (unhide Z0) (unhide Z1) (unhide Z2) rfl (by decide) _ _ _ rfl (((own_ext (unhide hI).own (unhide X1)).alloc _).alloc _) ⟨w1.heap.size + 1, 0, none⟩ 1 1 [.int .i64 kd, .string t, .int .i64 n, .int .i64 ((k : Int) + (j : Int))] rfl rfl (cells_new2 _ _ _ _) ?c2 ?c3 ?c4 ?c5 ?_))
          case c2 => intro u hu; simp at hu; rcases hu with rfl | rfl | rfl | rfl <;> rfl
          case c3 => have := (unhide hI).len; unfold maxLen; omega
          case c4 => have := (unhide hI).len; omega
          case c5 => have := ((unhide hI).ext.trans (unhide X1)).le; simp; omega
          intro v' w2 hown' hgrow _
          have R := hide (unhide HN v' _ w2 (((unhide X1).trans (Ext.alloc _ _)).trans (Ext.alloc _ _)) hown' hgrow)
          clear hown' hgrow HN
          go_wp2
          go_step3
          refine ⟨rfl, ⟨m, _, _, _, _, _, _, _, _, _, _, _, _, _, _, _, _, _, _, _, _, _, _, _, _, _, _, _, _, _, _, _, _, _, rfl, rfl, by omega, R⟩, ?_⟩
          simp [intOf]
          omega
    · intro H
      have HH := hide H
      clear H
      have hst := hide (LI.start s w)
      go_wp2
      refine wp_label ?_
      rename_i hK
      exact hK _ _ (unhide HH _ _ ⟨0, _, _, _, _, _, _, _, _, _, _, _, _, _, _, _, _, _, _, _, _, _, _, _, _, _, _, _, _, _, _, _, _, _, rfl, by omega, by omega, hst⟩)

end Go.Proofs.YtjeledllejlpcaaGreatDoor

namespace Go.Proofs.YtjeledllejlpcaaGreatDoor
open Go.RowKit

/-- A tree as plain data: its kind, its op, its text, its number, its list. -/
structure PN where
  k : Int
  o : Int
  s : ByteArray
  n : Int
  l : List PN

abbrev emptyB : ByteArray := ⟨#[]⟩
def nodeZ : PN := ⟨0, 0, emptyB, 0, []⟩
def tkZ : Tk := ⟨0, emptyB, 0, 0⟩

/-- Where a reader stands: the words not yet read, what is open, the place of the fault, the fault. -/
structure PS where
  ts : List Tk
  op : Int
  pl : Int
  e : Int

/-- The word that stands so far ahead, or none. -/
def hdT (ts : List Tk) (i : Nat) : Tk := (ts[i]?).getD tkZ

def PS.here (st : PS) (len : Nat) : Int := match st.ts with
  | [] => len
  | t :: _ => t.o
def PS.fail (st : PS) (len : Nat) (c : Int) : PS := if st.e = 0 then ⟨[], st.op, st.here len, c⟩ else ⟨[], st.op, st.pl, st.e⟩
def PS.next (st : PS) : PS := ⟨st.ts.tail, st.op, st.pl, st.e⟩
def isT (t : Tk) (k : Int) (s : ByteArray) : Bool := (t.k == k) && (t.t.toList == s.toList)
def PS.isS (st : PS) (s : ByteArray) : Bool := isT (hdT st.ts 0) 6 s
def PS.isW (st : PS) (s : ByteArray) : Bool := isT (hdT st.ts 0) 2 s
def PS.takeS (st : PS) (s : ByteArray) : Bool × PS := if st.isS s then (true, st.next) else (false, st)
def PS.takeW (st : PS) (s : ByteArray) : Bool × PS := if st.isW s then (true, st.next) else (false, st)
def PS.sign (st : PS) (len : Nat) (s : ByteArray) : PS := if st.isS s then st.next else st.fail len 10
def PS.word (st : PS) (len : Nat) (s : ByteArray) : PS := if st.isW s then st.next else st.fail len 10
def PS.name (st : PS) (len : Nat) : ByteArray × PS := if (hdT st.ts 0).k = 1 then ((hdT st.ts 0).t, st.next) else (emptyB, st.fail len 10)
def PS.up (st : PS) : PS := ⟨st.ts, wrap64 (st.op + 1), st.pl, st.e⟩
def PS.enter (st : PS) (len : Nat) : PS := if 24 < wrap64 (st.op + 1) then st.up.fail len 21 else st.up
def PS.leave (st : PS) : PS := ⟨st.ts, wrap64 (st.op - 1), st.pl, st.e⟩

/-- An operator: its sign, its level, the kind and op of its node. -/
structure Opr where
  s : ByteArray
  lv : Int
  k : Int
  o : Int

def oprs : List Opr := [⟨⟨#[124, 124]⟩, 1, 13, 0⟩, ⟨⟨#[38, 38]⟩, 2, 12, 0⟩, ⟨⟨#[61, 61]⟩, 3, 11, 6⟩, ⟨⟨#[33, 61]⟩, 3, 11, 7⟩, ⟨⟨#[60]⟩, 3, 11, 8⟩, ⟨⟨#[60, 61]⟩, 3, 11, 9⟩, ⟨⟨#[62]⟩, 3, 11, 10⟩, ⟨⟨#[62, 61]⟩, 3, 11, 11⟩,
  ⟨⟨#[43]⟩, 4, 11, 1⟩, ⟨⟨#[45]⟩, 4, 11, 2⟩, ⟨⟨#[42]⟩, 5, 11, 3⟩, ⟨⟨#[47]⟩, 5, 11, 4⟩, ⟨⟨#[37]⟩, 5, 11, 5⟩, ⟨⟨#[45]⟩, 6, 14, 15⟩, ⟨⟨#[33]⟩, 6, 14, 16⟩, ⟨⟨#[91]⟩, 7, 11, 12⟩]

def opHit (lv : Int) (s : ByteArray) (o : Opr) : Bool := (o.lv == lv) && (o.s.toList == s.toList)
def atLv (lv : Int) (s : ByteArray) : Option Opr := oprs.find? (opHit lv s)
def PS.oper (st : PS) (lv : Int) : Option Opr := if (hdT st.ts 0).k = 6 then atLv lv (hdT st.ts 0).t else none
def PS.takeO (st : PS) (lv : Int) : Option Opr × PS := match st.oper lv with
  | some o => (some o, st.next)
  | none => (none, st)
def Opr.node (o : Opr) (l : List PN) : PN := ⟨o.k, o.o, emptyB, 0, l⟩

abbrev Rdr := PS → PN × PS

/-- What operators of a level join, from left to right, behind n. -/
def loopP (lv : Int) (sub : Rdr) : Nat → PN → PS → PN × PS
  | 0, n, st => (n, st)
  | f + 1, n, st => match st.takeO lv with
    | (none, st1) => (n, st1)
    | (some o, st1) => loopP lv sub f (o.node [n, (sub st1).1]) (sub st1).2
def levP (lv : Int) (sub : Rdr) (f : Nat) (st : PS) : PN × PS := loopP lv sub f (sub st).1 (sub st).2
def cmpP (sub : Rdr) (st : PS) : PN × PS := match (sub st).2.takeO 3 with
  | (none, st1) => ((sub st).1, st1)
  | (some o, st1) => (o.node [(sub st).1, (sub st1).1], (sub st1).2)

/-- An expression in brackets, from the first of them on. -/
def inBrP (len : Nat) (ex : Rdr) (c : ByteArray) (st : PS) : PN × PS :=
  ((ex (st.enter len).next).1, ((ex (st.enter len).next).2.sign len c).leave)
def moreP (len : Nat) (ex : Rdr) : Nat → List PN → PS → List PN × PS
  | 0, acc, st => (acc, st)
  | f + 1, acc, st => match st.takeS ⟨#[44]⟩ with
    | (false, st1) => (acc, st1)
    | (true, st1) => moreP len ex f (acc ++ [(ex st1).1]) (ex st1).2
def opsP (len : Nat) (ex : Rdr) (f : Nat) (c : ByteArray) (st : PS) : List PN × PS := match st.takeS c with
  | (true, st1) => ([], st1)
  | (false, st1) => ((moreP len ex f [(ex st1).1] (ex st1).2).1, (moreP len ex f [(ex st1).1] (ex st1).2).2.sign len c)
def PS.isCall (st : PS) : Bool := ((hdT st.ts 0).k == 1) && isT (hdT st.ts 1) 6 ⟨#[40]⟩
def callP (len : Nat) (ex : Rdr) (f : Nat) (st : PS) : PN × PS :=
  (⟨20, 0, ((st.enter len).name len).1, 0, (opsP len ex f ⟨#[41]⟩ (((st.enter len).name len).2.sign len ⟨#[40]⟩)).1⟩, (opsP len ex f ⟨#[41]⟩ (((st.enter len).name len).2.sign len ⟨#[40]⟩)).2.leave)
def listP (len : Nat) (ex : Rdr) (f : Nat) (st : PS) : PN × PS :=
  (⟨21, 0, emptyB, 0, (opsP len ex f ⟨#[93]⟩ ((st.enter len).sign len ⟨#[91]⟩)).1⟩, (opsP len ex f ⟨#[93]⟩ ((st.enter len).sign len ⟨#[91]⟩)).2.leave)
def litP (len : Nat) (st : PS) : PN × PS :=
  if (hdT st.ts 0).k = 3 then (⟨15, 0, emptyB, (hdT st.ts 0).n, []⟩, st.next) else if (hdT st.ts 0).k = 4 then (⟨16, 0, emptyB, (hdT st.ts 0).n, []⟩, st.next) else
  if (hdT st.ts 0).k = 5 then (⟨17, 0, (hdT st.ts 0).t, 0, []⟩, st.next) else if (hdT st.ts 0).k = 1 then (⟨19, 0, (hdT st.ts 0).t, 0, []⟩, st.next) else (nodeZ, st.fail len 10)
def sglP (len : Nat) (ex : Rdr) (f : Nat) (st : PS) : PN × PS :=
  if st.isS ⟨#[40]⟩ then inBrP len ex ⟨#[41]⟩ st else if st.isS ⟨#[91]⟩ then listP len ex f st else
  if st.isW ⟨#[110, 105, 108]⟩ then (⟨18, 0, emptyB, 0, []⟩, st.next) else if st.isCall then callP len ex f st else litP len st
def ixLoopP (len : Nat) (ex : Rdr) : Nat → PN → PS → PN × PS
  | 0, n, st => (n, st)
  | f + 1, n, st => match st.oper 7 with
    | none => (n, st)
    | some o => ixLoopP len ex f (o.node [n, (inBrP len ex ⟨#[93]⟩ st).1]) (inBrP len ex ⟨#[93]⟩ st).2
def idxP (len : Nat) (ex : Rdr) (f : Nat) (st : PS) : PN × PS := ixLoopP len ex f (sglP len ex f st).1 (sglP len ex f st).2
def sgnP (len : Nat) (sg ex : Rdr) (f : Nat) (st : PS) : PN × PS := match st.oper 6 with
  | none => idxP len ex f st
  | some o => (o.node [(sg (st.enter len).next).1], (sg (st.enter len).next).2.leave)

def prdP (sg : Rdr) (f : Nat) : Rdr := levP 5 sg f
def sumP (sg : Rdr) (f : Nat) : Rdr := levP 4 (prdP sg f) f
def botP (sg : Rdr) (f : Nat) : Rdr := levP 2 (cmpP (sumP sg f)) f
def orP (sg : Rdr) (f : Nat) : Rdr := levP 1 (botP sg f) f

/-- The reader of what ops of one place stand ahead of, and that of expressions. -/
def bothP (len : Nat) : Nat → Rdr × Rdr
  | 0 => (fun st => (nodeZ, st), fun st => (nodeZ, st))
  | f + 1 => (sgnP len (bothP len f).1 (bothP len f).2 (f + 1), orP (sgnP len (bothP len f).1 (bothP len f).2 (f + 1)) (f + 1))
def exP (len f : Nat) : Rdr := (bothP len f).2

end Go.Proofs.YtjeledllejlpcaaGreatDoor
