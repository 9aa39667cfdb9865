/- Print of functions whose text is read as them again. · The words of a text, read off what is left of it: the same as lexF, in fewer steps. · The texts of ParseDeep. · The texts of ParseBlocks, what they are read as, and what that is printed as. -/
import Derived.Test.YthoablpjkgeekaaGreatDoorZb26
import Derived.Test.YthoablpjkgeekaaGreatDoorZb2
import Derived.Test.YthoablpjkgeekaaGreatDoorZb19
set_option linter.unusedSimpArgs false
set_option linter.unusedVariables false
set_option maxRecDepth 10000

namespace Go.Proofs.YthoablpjkgeekaaGreatDoor
open Go.RowKit

set_option maxHeartbeats 1000000 in
theorem print_w (ps : List PFn) (f f2 f3 : Nat) (l : List UInt8) (n : Int) (st : PS) (a : Option Addr) (cap : Nat) (w : World) (he : Er w) (hO : Opx w) (hP : RepFL w (InW w) ps a) (hn : ps.length ≤ 1000000)
    (hE : wFs (wE f) f ps (([], false), 0) = some ((l, false), n)) (hx : rdP ⟨l.toArray⟩ f2 = (ps, st)) (hst : st.e = 0) (ht : tooP ps = false) (hb : ps.all (bdF f3) = true) (hl : l.length ≤ 100000) (hf : (begP ⟨l.toArray⟩).ts.length < f2) (hf2 : f2 ≤ 100000) :
    Calls Tryz.prog 13 #[.slice a ps.length cap] w fun e w' => e = .returned (.tuple #[.string ⟨l.toArray⟩, .bool true]) ∧ Ext w w' := by
  have hop := opx_lt hO
  have HTr := hide (fun (W : World) (k : Ext w W) => hP.inw k)
  have HT2 : Hd (∀ W, Ext w W → RepFL W (fun b => b < w.heap.size) ps a) := fun W k => RepFL.to (fun b hb => ⟨hb, k.block b hb⟩) hP
  have I0 : Hd (WrI (w.alloc (wrO (.slice none 0 0) 0 false)) w.heap.size (([], false), 0)) := by
    refine ⟨⟨.slice none 0 0, ?_, World.ownsRow_nil _ _ _ _⟩, by simp, hO.ext (Ext.alloc _ _), by omega⟩
    exact Go.heap_alloc_new w (wrO (.slice none 0 0) 0 false)
  have HX2 : Hd (Ext w (w.alloc (wrO (.slice none 0 0) 0 false))) := Ext.alloc _ _
  have HEx := hide (functions_w w.heap.size (wE f) f (expr_w _ f) ps a cap _ _ _ (unhide I0) (unhide HT2 _ (unhide HX2)) hn hE)
  have HXw : Hd (∀ W, WrK w.heap.size (w.alloc (wrO (.slice none 0 0) 0 false)) W → Ext w W) := fun W k => ext_wrk (unhide HX2) k (by omega)
  have HTd := hide (fun (W : World) (h : Wr W w.heap.size l n false) => told_any w.heap.size l n false W h)
  have HXp : Hd (∀ W, Ext w W → Calls Tryz.prog 6 #[.string ⟨l.toArray⟩] W fun e w' => ∃ ua uc, e = .returned (.tuple #[.slice ua ps.length uc, .int .i64 0, .int .i64 0]) ∧ RepFL w' (InW w') ps ua ∧ Ext W w') := fun W x => by
    refine Calls.mono (program_any ⟨l.toArray⟩ f2 W (he.on x) (hO.ext x) (by show l.toArray.size ≤ _; simp; omega) hf hf2) ?_
    rw [hx]
    rintro e w' ⟨hw, h9 | ⟨_, h9, _⟩ | ⟨_, _, ua, uc, rfl, _, hr⟩⟩
    · exact absurd hst h9.1
    · rw [ht] at h9; cases h9
    · exact ⟨ua, uc, rfl, RepFL.to (fun b hb => ⟨hb.2, rfl⟩) hr, hw⟩
  have HSm := hide (fun (b : Option Addr) (cb : Nat) (W : World) (x : RepFL W (InW W) ps a) (y : RepFL W (InW W) ps b) => eqF_w f3 ps hb a b cap cb W x y (by omega))
  clear hE hx hb hf hf2 hO he hst hP ht
  generalize ps.length = m at *
  go_enter Tryz.func13, Tryz.ntmps13
  go_wp2_with (first
    | (go_at_call 24; refine Calls.mono (unhide HEx) ?_; rintro e w3 ⟨rfl, h9, l9, k9⟩; have W3 := hide h9; have X3 := hide (unhide HXw _ k9); clear h9 l9 k9)
    | (go_at_call 25; refine Calls.mono (unhide HTd _ (unhide W3)) ?_; rintro e w4 ⟨rfl, hw⟩; obtain rfl := hw.symm)
    | (have T9 := unhide X3; go_at_call 6; refine Calls.mono (unhide HXp _ T9) ?_; rintro e w5 ⟨ua, uc, rfl, ru, hw⟩; have X5 := hide ((unhide X3).trans hw); have U5 := hide ru; clear hw ru T9)
    | (have T9 := unhide X5; go_at_call 26; refine Calls.mono (unhide HSm _ _ _ (unhide HTr _ T9) (unhide U5)) ?_; rintro e w6 ⟨rfl, hw⟩; have X6 := hide (T9.trans hw); clear hw T9))
  exact bodyPost_ret (v := .tuple #[.string ⟨l.toArray⟩, .bool true]) (by simp [results, Tryz.results13, go_sem]) rfl ⟨rfl, unhide X6⟩

end Go.Proofs.YthoablpjkgeekaaGreatDoor

namespace Go.Proofs.YthoablpjkgeekaaGreatDoor
open Go.RowKit

/-- The word at the front: its kind, its text, its number, its length. -/
def numL (l : List UInt8) (d : Nat) : Option (Int × List UInt8 × Int × Nat) :=
  if 9223372036854775807 < dv 0 (l.take d) then none
  else if l[d]? == some 105 then (if (l[d + 1]?.map nm).getD false then none else some (4, [], dv 0 (l.take d), d + 1))
  else (if (l[d]?.map nm).getD false then none else some (3, [], dv 0 (l.take d), d))
def nameL (l : List UInt8) (r : Nat) : Option (Int × List UInt8 × Int × Nat) :=
  if 16 < r then none else some (if wordL (l.take r) then 2 else 1, l.take r, 0, r)
def textL (f : Nat) (l : List UInt8) : Option (Int × List UInt8 × Int × Nat) := (txF f l).map fun p => (5, p.1, 0, 1 + p.2)
def opLL (l : List UInt8) (r : Nat) : Option (Int × List UInt8 × Int × Nat) := if r = 0 then none else some (6, l.take r, 0, r)
def tokL (f : Nat) : List UInt8 → Option (Int × List UInt8 × Int × Nat)
  | [] => none
  | c :: r => if dg c then numL (c :: r) (run dg (c :: r)) else if nm c then nameL (c :: r) (run nm (c :: r)) else if c.toNat = 34 then textL f r else opLL (c :: r) (opL (c :: r))
/-- The word, as tokT tells it. -/
def upT (o : Nat) (q : Int × List UInt8 × Int × Nat) : Int × ByteArray × Int × Nat := (q.1, ⟨q.2.1.toArray⟩, q.2.2.1, o + q.2.2.2)

theorem ext_mk (s : ByteArray) (o r : Nat) : s.extract o (o + r) = ⟨(((L s).drop o).take r).toArray⟩ := by
  apply L_inj
  rw [L_extract, Nat.add_sub_cancel_left]
  exact (L_mk _).symm

theorem tokT_L (s : ByteArray) (o : Nat) : tokT s o = (tokL (s.size + 1) ((L s).drop o)).map (upT o) := by
  unfold tokT
  have hd : (L s)[o]? = ((L s).drop o)[0]? := by rw [List.getElem?_drop]; rfl
  have ht : (L s).drop (o + 1) = ((L s).drop o).drop 1 := by rw [List.drop_drop]
  have hg : ∀ k, (L s)[o + k]? = ((L s).drop o)[k]? := fun k => by rw [List.getElem?_drop]
  have hx := ext_mk s o
  unfold numT nameT textT opT nv isI nmAt nd
  rw [hd, ht, hg, Nat.add_assoc, hg, hx, hx]
  generalize (L s).drop o = l
  cases l with
  | nil => rfl
  | cons c r =>
    show (if dg c = true then _ else _) = _
    rw [tokL]
    by_cases h1 : dg c = true
    · rw [if_pos h1, if_pos h1]
      unfold numL
      (repeat' split) <;> simp_all [upT] <;> rfl
    · rw [if_neg h1, if_neg h1]
      by_cases h2 : nm c = true
      · rw [if_pos h2, if_pos h2]
        unfold nameL
        split <;> simp_all [upT]
      · rw [if_neg h2, if_neg h2]
        by_cases h3 : c.toNat = 34
        · rw [if_pos h3, if_pos h3]
          unfold textL
          rw [List.drop_succ_cons, List.drop_zero, Option.map_map]
          congr 1
          funext p
          simp [upT, Nat.add_assoc]
        · rw [if_neg h3, if_neg h3]
          unfold opLL
          split <;> simp_all [upT]

/-- The words of what is left, from the place o on. -/
def lexL (F : Nat) : Nat → List UInt8 → Nat → List Tk × Option Nat
  | 0, _, _ => ([], some 0)
  | f + 1, l, o => match l.drop (skp false l) with
    | [] => ([], none)
    | c :: r => match tokL F (c :: r) with
      | none => ([], some (o + skp false l))
      | some (k, t, n, m) => (⟨k, ⟨t.toArray⟩, n, o + skp false l⟩ :: (lexL F f ((c :: r).drop m) (o + skp false l + m)).1, (lexL F f ((c :: r).drop m) (o + skp false l + m)).2)

theorem lexF_L (s : ByteArray) : ∀ (f o : Nat), o ≤ s.size → lexF f s o = lexL (s.size + 1) f ((L s).drop o) o := by
  intro f
  induction f with
  | zero => intro o _; rfl
  | succ f ih =>
    intro o ho
    rw [lexF, lexL]
    have hdd : ((L s).drop o).drop (skp false ((L s).drop o)) = (L s).drop (o + skp false ((L s).drop o)) := by rw [List.drop_drop]
    have hsk : skp false ((L s).drop o) ≤ s.size - o := by
      have := skp_le ((L s).drop o) false
      rw [List.length_drop, L_len] at this
      exact this
    generalize skp false ((L s).drop o) = k at *
    rw [hdd, tokT_L]
    by_cases hz : s.size ≤ o + k
    · rw [if_pos hz, L_end s _ hz]
    · rw [if_neg hz, L_drop s (o + k) (by omega)]
      have hdr := L_drop s (o + k) (by omega)
      show (match Option.map (upT (o + k)) (tokL (s.size + 1) (s[o + k] :: (L s).drop (o + k + 1))) with | none => _ | some (k_1, t, n, m) => _) = (match tokL (s.size + 1) (s[o + k] :: (L s).drop (o + k + 1)) with | none => _ | some (k_1, t, n, m) => _)
      rw [← hdr]
      cases ht : tokL (s.size + 1) ((L s).drop (o + k)) with
      | none => rfl
      | some q =>
        obtain ⟨a, t, n, m⟩ := q
        have hm : o + k + m ≤ s.size := (tok_lt s (o + k) a ⟨t.toArray⟩ n (o + k + m) (by rw [tokT_L, ht]; rfl)).2
        show (_ :: (lexF f s (o + k + m)).1, (lexF f s (o + k + m)).2) = _
        rw [ih _ hm]
        simp only [List.drop_drop]

end Go.Proofs.YthoablpjkgeekaaGreatDoor

namespace Go.Proofs.YthoablpjkgeekaaGreatDoor
open Go.RowKit

def dpO (k : Nat) : List UInt8 := match k with
  | 0 => [40, 32]
  | 1 => [91, 32]
  | 2 => [102, 32, 40, 32]
  | 3 => [97, 32, 91, 32]
  | 4 => [45, 32]
  | 5 => [33, 32]
  | _ => []
def dpE (k : Nat) : List UInt8 := match k with
  | 0 => [32, 41]
  | 1 => [32, 93]
  | 2 => [32, 41]
  | 3 => [32, 93]
  | 4 => []
  | 5 => []
  | _ => []
/-- So many of them, one behind the other. -/
def rp (l : List UInt8) : Nat → List UInt8
  | 0 => []
  | n + 1 => rp l n ++ l
theorem rp_len (l : List UInt8) : ∀ n, (rp l n).length = n * l.length := by
  intro n
  induction n with
  | zero => simp [rp]
  | succ n ih => rw [rp, List.length_append, ih, Nat.succ_mul]
def dpS (k n : Nat) : List UInt8 := rp (dpO k) n ++ [97] ++ rp (dpE k) n
def dpW (k : Nat) : Int := 24 * ((dpO k).length : Int) + (if k = 3 then 2 else 0)
def dpOk (k n : Nat) : Bool :=
  decide ((begP ⟨(dpS k n).toArray⟩).ts.length < 200) && (if n ≤ 24 then decide ((xrP ⟨(dpS k n).toArray⟩ 200).2.e = 0) else (decide ((xrP ⟨(dpS k n).toArray⟩ 200).2.e = 21) && decide ((xrP ⟨(dpS k n).toArray⟩ 200).2.pl = dpW k)))
def dpRow (k : Nat) : Bool := (List.range 40).all (fun i => dpOk k (i + 1))

end Go.Proofs.YthoablpjkgeekaaGreatDoor

namespace Go.Proofs.YthoablpjkgeekaaGreatDoor
open Go.RowKit

theorem size_mk (l : List UInt8) : (⟨l.toArray⟩ : ByteArray).size = l.length := by
  show l.toArray.size = _
  simp
/-- Where a reader stands at a text's begin, and the functions that are read, by the faster lexer. -/
def begL (l : List UInt8) : PS := if 4000 < l.length then ⟨[], 0, 0, 2⟩ else match (lexL (l.length + 1) (l.length + 1) l 0).2 with
  | some b => ⟨[], 0, (b : Nat), 10⟩
  | none => ⟨(lexL (l.length + 1) (l.length + 1) l 0).1, 0, 0, 0⟩
theorem begP_L (l : List UInt8) : begP ⟨l.toArray⟩ = begL l := by
  unfold begP begL
  rw [lexF_L _ _ _ (Nat.zero_le _), size_mk, L_mk, List.drop_zero]
  rfl
def rdL (l : List UInt8) (F : Nat) : List PFn × PS := funsP l.length (stsP l.length F F).2.1 F F [] (begL l)
theorem rdP_L (l : List UInt8) (F : Nat) : rdP ⟨l.toArray⟩ F = rdL l F := by
  unfold rdP rdL
  rw [begP_L, size_mk]

def eqL (E : PN → PN → Bool) : List PN → List PN → Bool
  | [], [] => true
  | a :: l, b :: m => E a b && eqL E l m
  | _, _ => false
theorem eqL_to {E : PN → PN → Bool} (h : ∀ a b, E a b = true → a = b) : ∀ l m, eqL E l m = true → l = m
  | [], [], _ => rfl
  | a :: l, b :: m, k => by
    rw [eqL, Bool.and_eq_true] at k
    rw [h a b k.1, eqL_to h l m k.2]
  | [], _ :: _, k => by cases k
  | _ :: _, [], k => by cases k
def eqN : Nat → PN → PN → Bool
  | 0, _, _ => false
  | f + 1, p, q => (p.k == q.k) && (p.o == q.o) && (L p.s == L q.s) && (p.n == q.n) && eqL (eqN f) p.l q.l
theorem eqN_to : ∀ f p q, eqN f p q = true → p = q
  | 0, _, _, k => by cases k
  | f + 1, ⟨a, b, c, d, l⟩, ⟨a', b', c', d', l'⟩, k => by
    rw [eqN] at k
    simp only [Bool.and_eq_true, beq_iff_eq] at k
    obtain ⟨⟨⟨⟨h1, h2⟩, h3⟩, h4⟩, h5⟩ := k
    rw [h1, h2, L_inj h3, h4, eqL_to (eqN_to f) _ _ h5]
/-- Just this one function, of no parameters, is read. -/
def isMain (q : List PFn) (b : PN) (f : Nat) : Bool := match q with
  | [p] => (L p.nm == [109, 97, 105, 110]) && p.ps.isEmpty && eqN f p.bd b
  | _ => false
theorem isMain_to {q : List PFn} {b : PN} {f : Nat} (h : isMain q b f = true) : q = [⟨⟨#[109, 97, 105, 110]⟩, [], b⟩] := by
  unfold isMain at h
  split at h
  · rename_i p
    obtain ⟨n, ps, d⟩ := p
    simp only [Bool.and_eq_true, beq_iff_eq, List.isEmpty_iff] at h
    obtain ⟨⟨h1, h2⟩, h3⟩ := h
    have h4 : n = ⟨#[109, 97, 105, 110]⟩ := L_inj (h1.trans rfl)
    rw [h4, h2, eqN_to f _ _ h3]
  · cases h

def bkA : List UInt8 := [102, 110, 32, 109, 97, 105, 110, 32, 40, 32, 41, 32, 123, 32]
def bkC : List UInt8 := [105, 102, 32, 49, 32, 123, 32, 125, 32, 101, 108, 115, 101, 32]
def bkD : List UInt8 := [105, 102, 32, 50, 32, 123, 32, 125]
def bkI : List UInt8 := [105, 102, 32, 49, 32, 123, 32]
def bkE : List UInt8 := [32, 125]
def bkJ : List UInt8 := [32, 105, 102, 32, 49, 32, 123]
def bkP : List UInt8 := [102, 110, 32, 109, 97, 105, 110, 32, 40, 32, 41, 32, 123]
/-- Ifs behind elses; ifs within ifs; these as they are printed. -/
def bkU (n : Nat) : List UInt8 := bkA ++ (rp bkC n ++ bkD) ++ [] ++ bkE
def bkV (n : Nat) : List UInt8 := bkA ++ rp bkI n ++ rp bkE n ++ bkE
def bkX (n : Nat) : List UInt8 := bkP ++ rp bkJ n ++ rp bkE n ++ bkE
def nInt (n : Int) : PN := ⟨15, 0, emptyB, n, []⟩
def nBl (l : List PN) : PN := ⟨10, 0, emptyB, 0, l⟩
def nIf (l : List PN) : PN := ⟨3, 0, emptyB, 0, l⟩
def trU : Nat → PN
  | 0 => nIf [nInt 2, nBl []]
  | n + 1 => nIf [nInt 1, nBl [], nBl [trU n]]
def trV : Nat → PN
  | 0 => nBl []
  | n + 1 => nBl [nIf [nInt 1, trV n]]

/-- A text is read as the function main of that body. -/
def rdOk (l : List UInt8) (b : PN) : Bool := decide ((begL l).ts.length < 400) && (isMain (rdL l 400).1 b 200 && decide ((rdL l 400).2.e = 0))
/-- The function main of that body is printed so. -/
def prOk (b : PN) (t : List UInt8) : Bool := bdN 200 b && match wFs (wE 200) 200 [⟨⟨#[109, 97, 105, 110]⟩, [], b⟩] (([], false), 0) with
  | some ((l, false), _) => l == t
  | _ => false
def dpBad (l : List UInt8) : Bool := decide ((begL l).ts.length < 400) && decide ((rdL l 400).2.e = 21)
def bkOkU (n : Nat) : Bool := rdOk (bkU n) (nBl [trU n])

def bkOkV (n : Nat) : Bool := rdOk (bkV n) (trV n) && (rdOk (bkX n) (trV n) && prOk (trV n) (bkX n))
def bkOkW (n : Nat) : Bool := dpBad (bkV n)

end Go.Proofs.YthoablpjkgeekaaGreatDoor
