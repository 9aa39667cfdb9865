/- The code of what a text tells: gen.Source. · The words of a text, read off what is left of it: the same as lexF, in fewer steps. · What is read of a text, by the faster lexer. · The texts of GenTicks and GenBounds, and what is told of them. -/
import Derived.Test.YtlgdjeiendmniaaGreatDoorZg38
import Derived.Test.YtlgdjeiendmniaaGreatDoorZg9
import Derived.Test.YtlgdjeiendmniaaGreatDoorZg26
import Derived.Test.YtlgdjeiendmniaaGreatDoorZg34
set_option linter.unusedSimpArgs false
set_option linter.unusedVariables false
set_option maxRecDepth 10000

namespace Go.Proofs.YtlgdjeiendmniaaGreatDoor
open Go.RowKit

theorem srcQ_ok {q : List PFn × PS} {f2 : Nat} {r : PSrc} (h : srcQ q f2 = some r) (h0 : r.e = 0) : r.pl = 0 ∧ tooP r.fs = false ∧ ∀ p ∈ r.fs, p.nm.size ≤ 140737488355328 := by
  unfold srcQ at h
  split at h
  · rename_i h1
    injection h with h
    subst h
    exact absurd h0 h1
  · split at h
    · injection h with h
      subst h
      cases h0
    · rename_i h2
      split at h
      · cases h
      · rename_i l e hc
        split at h
        · rename_i h3
          injection h with h
          subst h
          exact absurd h0 h3
        · injection h with h
          subst h
          refine ⟨rfl, by simpa using h2, fun p hp => ?_⟩
          unfold checkP at hc
          split at hc
          · rename_i h4
            have := List.all_eq_true.1 h4 p hp
            unfold small at this
            have := of_decide_eq_true this
            omega
          · cases hc

set_option maxHeartbeats 2000000 in
theorem gsource_w (s : ByteArray) (f f2 f3 K : Nat) (w : World) (e pl m : Int) (fns : List V.KF) (he : Er w) (hO : Opx w) (hT : Tbl w) (hP : Shp w) (hmax : s.size ≤ 140737488355328) (hf : (begP s).ts.length < f) (hf2 : f ≤ 100000) (hf3 : f2 ≤ 7000000) (hK : K ≤ 1000000) (hq : gSrc s f f2 f3 K = some (e, pl, fns, m)) :
    Calls Tryz.prog 5 #[.string s] w fun e' w' => ∃ pa pc, e' = .returned (.tuple #[V.kpV pa fns.length pc m, .int .i64 pl, .int .i64 e]) ∧ (e = 0 → V.RepP w' (Up w w') pa fns) ∧ Ext w w' := by
  unfold gSrc at hq
  cases hs : srcP s f f2 with
  | none => rw [hs] at hq; cases hq
  | some r =>
  rw [hs] at hq
  obtain ⟨wz, hwz⟩ : ∃ wz, wz = w.alloc (prO none 0 0 0) := ⟨_, rfl⟩
  have Xz : Ext w wz := by rw [hwz]; exact Ext.alloc _ _
  have HS := hide (source_w s f f2 wz r (he.on Xz) (hO.ext Xz) (hT.ext Xz) hmax hf hf2 hf3 hs)
  have rz : wz.heap[w.heap.size]? = some (prO none 0 0 0) := by rw [hwz]; exact Go.heap_alloc_new w _
  have RZ := hide rz
  have XZ := hide Xz
  have HWZ := hide hwz
  have HP := hide hP
  simp only at hq
  by_cases h0 : r.e = 0
  · obtain ⟨h1, h2, h3⟩ := srcQ_ok hs h0
    rw [if_pos h0] at hq
    cases hg : gPrg f3 K r.fs r.sc with
    | none => rw [hg] at hq; cases hq
    | some R =>
    obtain ⟨e1, fns1, m1⟩ := R
    rw [hg] at hq
    simp only at hq
    injection hq with hq
    injection hq with q1 hq
    injection hq with q2 hq
    injection hq with q3 q4
    subst q1 q2 q3 q4
    have HPr := hide (fun (W : World) (hX : Ext w W) (fa sb : Option Addr) (fc scc : Nat) (hF : RepFL W (fun b => b < W.heap.size) r.fs fa) (hS : RepSc W (fun b => b < W.heap.size) r.sc sb) => programOf_m (w := W) f3 K r.fs r.sc e1 fns1 m1 fa sb fc scc hK hg hF hS h2 ((unhide HP).ext hX) h3)
    obtain ⟨fs, sc, rpl, re⟩ := r
    simp only at h0 h1
    subst h0 h1
    clear hs hg h2 h3 he hO hT hP hf hwz rz Xz
    go_enter Tryz.func5, Tryz.ntmps5
    go_wp2_with (first
      | (go_at_call 8; rw [unhide HWZ] at HS; refine Calls.mono (unhide HS) ?_; rintro e2 w1 ⟨hX, a, cap, b, cap2, rfl, hc1, hr1, hc2, hr2⟩; rw [← unhide HWZ] at hX; have X1 := hide ((unhide XZ).trans hX); have R1 := hide hr1; have R2 := hide hr2; have RZ1 := hide (hX.row (unhide RZ)); clear hX hr1 hr2)
      | (go_at_call 9; refine Calls.mono (unhide HPr w1 (unhide X1) _ _ _ _ ((unhide R1).to (fun b hb => ⟨hb.2, rfl⟩)) ((unhide R2).to (fun b hb => ⟨hb.2, rfl⟩))) ?_; rintro e3 w2 ⟨pa, pc, rfl, hrp, hX⟩; have X2 := hide ((unhide X1).trans hX); have RP := hide hrp; have RZ2 := hide (hX.row (unhide RZ1)); have z0 := rowC (unhide RZ2) 0 rfl; have z1 := rowC (unhide RZ2) 1 rfl; have zf := rowF (unhide RZ2); clear hX hrp))
    have hX := ((((unhide X2).set (p := ⟨w.heap.size, 0, none⟩) (Nat.le_refl _) (.slice pa fns1.length pc)).set (p := ⟨w.heap.size, 1, none⟩) (Nat.le_refl _) (.int .i64 m1)).set (p := ⟨w.heap.size, 0, none⟩) (Nat.le_refl _) (.slice pa fns1.length pc)).set (p := ⟨w.heap.size, 1, none⟩) (Nat.le_refl _) (.int .i64 m1)
    obtain ⟨w4, hw4⟩ : ∃ w4, w4 = ((((w2.setCell ⟨w.heap.size, 0, none⟩ (.slice pa fns1.length pc)).setCell ⟨w.heap.size, 1, none⟩ (.int .i64 m1)).setCell ⟨w.heap.size, 0, none⟩ (.slice pa fns1.length pc)).setCell ⟨w.heap.size, 1, none⟩ (.int .i64 m1)) := ⟨_, rfl⟩
    have hsz : w4.heap.size = w2.heap.size := by rw [hw4]; simp [World.setCell]
    have hRp : e1 = 0 → V.RepP w4 (Up w w4) pa fns1 := fun h => V.RepP.to (fun q hq => ⟨⟨Nat.lt_of_le_of_lt (unhide X1).size hq.1, by rw [hsz]; exact hq.2⟩, by
      have hlt := Nat.lt_of_le_of_lt (unhide X1).size hq.1
      rw [hw4, Below.heap_setCell _ _ _ _ (by show q ≠ w.heap.size; omega), Below.heap_setCell _ _ _ _ (by show q ≠ w.heap.size; omega), Below.heap_setCell _ _ _ _ (by show q ≠ w.heap.size; omega), Below.heap_setCell _ _ _ _ (by show q ≠ w.heap.size; omega)]⟩) (unhide RP h)
    have r4 : w4.heap[w.heap.size]? = some (prO pa fns1.length pc m1) := by
      rw [hw4]
      exact row_set (row_set (row_set (row_set (unhide RZ2) 0 _) 1 _) 0 _) 1 _
    have y0 : w4.cell? ⟨w.heap.size, 0, none⟩ = some (.slice pa fns1.length pc) := rowC r4 0 rfl
    have y1 : w4.cell? ⟨w.heap.size, 1, none⟩ = some (.int .i64 m1) := rowC r4 1 rfl
    rw [← hw4] at hX ⊢
    clear z0 z1 hw4
    exact bodyPost_ret (v := .tuple #[V.kpV pa fns1.length pc m1, .int .i64 0, .int .i64 e1]) (by simp [results, Tryz.results5, go_sem, y0, y1]) rfl ⟨pa, pc, rfl, hRp, hX⟩
  · have hne : ¬ (r.e = 0) := h0
    rw [if_neg h0] at hq
    injection hq with hq
    injection hq with q1 hq
    injection hq with q2 hq
    injection hq with q3 q4
    subst q1 q2 q3 q4
    obtain ⟨fs, sc, rpl, re⟩ := r
    simp only at h0
    have h2 : (re == 0) = false := by simpa using h0
    have h3 : (re != 0) = true := by simp [h0]
    have HN := hide h0
    clear hs he hO hT hP hf hwz rz Xz h0 hne
    go_enter Tryz.func5, Tryz.ntmps5
    go_wp2_with (go_at_call 8; rw [unhide HWZ] at HS; refine Calls.mono (unhide HS) ?_; rintro e2 w1 ⟨hX, a, cap, b, cap2, rfl, hc1, hr1, hc2, hr2⟩; rw [← unhide HWZ] at hX; have X1 := hide ((unhide XZ).trans hX); have RZ1 := hide (hX.row (unhide RZ)); have z0 := rowC (unhide RZ1) 0 rfl; have z1 := rowC (unhide RZ1) 1 rfl; have zf := rowF (unhide RZ1); clear hX hr1 hr2)
    have hX := ((unhide X1).set (p := ⟨w.heap.size, 0, none⟩) (Nat.le_refl _) (.slice none 0 0)).set (p := ⟨w.heap.size, 1, none⟩) (Nat.le_refl _) (.int .i64 0)
    exact bodyPost_ret (v := .tuple #[V.kpV none 0 0 0, .int .i64 rpl, .int .i64 re]) (by simp [results, Tryz.results5, go_sem, z0, z1]) rfl ⟨none, 0, rfl, fun h => absurd h (unhide HN), hX⟩

end Go.Proofs.YtlgdjeiendmniaaGreatDoor

namespace Go.Proofs.YtlgdjeiendmniaaGreatDoor
open Go.RowKit

/-- The word at the front: its kind, its text, its number, its length. -/
def numL (l : List UInt8) (d : Nat) : Option (Int × List UInt8 × Int × Nat) :=
  if 9223372036854775807 < dv 0 (l.take d) then none
  else if l[d]? == some 105 then (if (l[d + 1]?.map nm).getD false then none else some (4, [], dv 0 (l.take d), d + 1))
  else (if (l[d]?.map nm).getD false then none else some (3, [], dv 0 (l.take d), d))
def nameL (l : List UInt8) (r : Nat) : Option (Int × List UInt8 × Int × Nat) :=
  if 16 < r then none else some (if wordL (l.take r) then 2 else 1, l.take r, 0, r)
def textL (f : Nat) (l : List UInt8) : Option (Int × List UInt8 × Int × Nat) := (txF f l).map fun p => (5, p.1, 0, 1 + p.2)
def opLL (l : List UInt8) (r : Nat) : Option (Int × List UInt8 × Int × Nat) := if r = 0 then none else some (6, l.take r, 0, r)
def tokL (f : Nat) : List UInt8 → Option (Int × List UInt8 × Int × Nat)
  | [] => none
  | c :: r => if dg c then numL (c :: r) (run dg (c :: r)) else if nm c then nameL (c :: r) (run nm (c :: r)) else if c.toNat = 34 then textL f r else opLL (c :: r) (opL (c :: r))
/-- The word, as tokT tells it. -/
def upT (o : Nat) (q : Int × List UInt8 × Int × Nat) : Int × ByteArray × Int × Nat := (q.1, ⟨q.2.1.toArray⟩, q.2.2.1, o + q.2.2.2)

theorem ext_mk (s : ByteArray) (o r : Nat) : s.extract o (o + r) = ⟨(((L s).drop o).take r).toArray⟩ := by
  apply L_inj
  rw [L_extract, Nat.add_sub_cancel_left]
  exact (L_mk _).symm

theorem tokT_L (s : ByteArray) (o : Nat) : tokT s o = (tokL (s.size + 1) ((L s).drop o)).map (upT o) := by
  unfold tokT
  have hd : (L s)[o]? = ((L s).drop o)[0]? := by rw [List.getElem?_drop]; rfl
  have ht : (L s).drop (o + 1) = ((L s).drop o).drop 1 := by rw [List.drop_drop]
  have hg : ∀ k, (L s)[o + k]? = ((L s).drop o)[k]? := fun k => by rw [List.getElem?_drop]
  have hx := ext_mk s o
  unfold numT nameT textT opT nv isI nmAt nd
  rw [hd, ht, hg, Nat.add_assoc, hg, hx, hx]
  generalize (L s).drop o = l
  cases l with
  | nil => rfl
  | cons c r =>
    show (if dg c = true then _ else _) = _
    rw [tokL]
    by_cases h1 : dg c = true
    · rw [if_pos h1, if_pos h1]
      unfold numL
      (repeat' split) <;> simp_all [upT] <;> rfl
    · rw [if_neg h1, if_neg h1]
      by_cases h2 : nm c = true
      · rw [if_pos h2, if_pos h2]
        unfold nameL
        split <;> simp_all [upT]
      · rw [if_neg h2, if_neg h2]
        by_cases h3 : c.toNat = 34
        · rw [if_pos h3, if_pos h3]
          unfold textL
          rw [List.drop_succ_cons, List.drop_zero, Option.map_map]
          congr 1
          funext p
          simp [upT, Nat.add_assoc]
        · rw [if_neg h3, if_neg h3]
          unfold opLL
          split <;> simp_all [upT]

/-- The words of what is left, from the place o on. -/
def lexL (F : Nat) : Nat → List UInt8 → Nat → List Tk × Option Nat
  | 0, _, _ => ([], some 0)
  | f + 1, l, o => match l.drop (skp false l) with
    | [] => ([], none)
    | c :: r => match tokL F (c :: r) with
      | none => ([], some (o + skp false l))
      | some (k, t, n, m) => (⟨k, ⟨t.toArray⟩, n, o + skp false l⟩ :: (lexL F f ((c :: r).drop m) (o + skp false l + m)).1, (lexL F f ((c :: r).drop m) (o + skp false l + m)).2)

theorem lexF_L (s : ByteArray) : ∀ (f o : Nat), o ≤ s.size → lexF f s o = lexL (s.size + 1) f ((L s).drop o) o := by
  intro f
  induction f with
  | zero => intro o _; rfl
  | succ f ih =>
    intro o ho
    rw [lexF, lexL]
    have hdd : ((L s).drop o).drop (skp false ((L s).drop o)) = (L s).drop (o + skp false ((L s).drop o)) := by rw [List.drop_drop]
    have hsk : skp false ((L s).drop o) ≤ s.size - o := by
      have := skp_le ((L s).drop o) false
      rw [List.length_drop, L_len] at this
      exact this
    generalize skp false ((L s).drop o) = k at *
    rw [hdd, tokT_L]
    by_cases hz : s.size ≤ o + k
    · rw [if_pos hz, L_end s _ hz]
    · rw [if_neg hz, L_drop s (o + k) (by omega)]
      have hdr := L_drop s (o + k) (by omega)
      show (match Option.map (upT (o + k)) (tokL (s.size + 1) (s[o + k] :: (L s).drop (o + k + 1))) with | none => _ | some (k_1, t, n, m) => _) = (match tokL (s.size + 1) (s[o + k] :: (L s).drop (o + k + 1)) with | none => _ | some (k_1, t, n, m) => _)
      rw [← hdr]
      cases ht : tokL (s.size + 1) ((L s).drop (o + k)) with
      | none => rfl
      | some q =>
        obtain ⟨a, t, n, m⟩ := q
        have hm : o + k + m ≤ s.size := (tok_lt s (o + k) a ⟨t.toArray⟩ n (o + k + m) (by rw [tokT_L, ht]; rfl)).2
        show (_ :: (lexF f s (o + k + m)).1, (lexF f s (o + k + m)).2) = _
        rw [ih _ hm]
        simp only [List.drop_drop]

end Go.Proofs.YtlgdjeiendmniaaGreatDoor

namespace Go.Proofs.YtlgdjeiendmniaaGreatDoor
open Go.RowKit

theorem size_mk (l : List UInt8) : (⟨l.toArray⟩ : ByteArray).size = l.length := by
  show l.toArray.size = _
  simp
/-- Where a reader stands at a text's begin, and the functions that are read, by the faster lexer. -/
def begL (l : List UInt8) : PS := if 4000 < l.length then ⟨[], 0, 0, 2⟩ else match (lexL (l.length + 1) (l.length + 1) l 0).2 with
  | some b => ⟨[], 0, (b : Nat), 10⟩
  | none => ⟨(lexL (l.length + 1) (l.length + 1) l 0).1, 0, 0, 0⟩
theorem begP_L (l : List UInt8) : begP ⟨l.toArray⟩ = begL l := by
  unfold begP begL
  rw [lexF_L _ _ _ (Nat.zero_le _), size_mk, L_mk, List.drop_zero]
  rfl
def rdL (l : List UInt8) (F : Nat) : List PFn × PS := funsP l.length (stsP l.length F F).2.1 F F [] (begL l)
theorem rdP_L (l : List UInt8) (F : Nat) : rdP ⟨l.toArray⟩ F = rdL l F := by
  unfold rdP rdL
  rw [begP_L, size_mk]
/-- So many of them, one behind the other. -/
def rp (l : List UInt8) : Nat → List UInt8
  | 0 => []
  | n + 1 => rp l n ++ l
theorem rp_len (l : List UInt8) : ∀ n, (rp l n).length = n * l.length := by
  intro n
  induction n with
  | zero => simp [rp]
  | succ n ih => rw [rp, List.length_append, ih, Nat.succ_mul]

end Go.Proofs.YtlgdjeiendmniaaGreatDoor

namespace Go.Proofs.YtlgdjeiendmniaaGreatDoor
open Go.RowKit Go.Maps

def gSrcL (l : List UInt8) (f f2 f3 K : Nat) : Option (Int × Int × List V.KF × Int) := match srcQ (rdL l f) f2 with
  | none => none
  | some r => if r.e = 0 then (match gPrg f3 K r.fs r.sc with
      | none => none
      | some (e, fns, m) => some (e, 0, fns, m)) else some (r.e, r.pl, [], 0)
theorem gSrc_L (l : List UInt8) (f f2 f3 K : Nat) : gSrc ⟨l.toArray⟩ f f2 f3 K = gSrcL l f f2 f3 K := by
  unfold gSrc gSrcL srcP
  rw [rdP_L]
  rfl
def tkA : List UInt8 := [102, 110, 32, 102, 32, 40, 32, 41, 32, 123, 32]
def tkW : List UInt8 := [119, 104, 105, 108, 101, 32, 48, 32, 123, 32, 102, 32, 40, 32, 41, 32, 59, 32, 125, 32]
def tkB : List UInt8 := [125, 32, 102, 110, 32, 109, 97, 105, 110, 32, 40, 32, 41, 32, 123, 32]
def tkL : List UInt8 := [119, 104, 105, 108, 101, 32, 108, 101, 110, 32, 40, 32, 91, 32, 93, 32, 41, 32, 123, 32, 125, 32]
def tkK : List UInt8 := [102, 32, 40, 32, 41, 32, 59, 32]
def tk1 (o : Nat) : List UInt8 := tkA ++ rp tkW o
def tk2 (o l : Nat) : List UInt8 := tk1 o ++ tkB ++ rp tkL l
def tk3 (o l c : Nat) : List UInt8 := tk2 o l ++ rp tkK c
def tkT (l c o : Nat) : List UInt8 := tk3 o l c ++ [125]
/-- How many ticks there are in a code, behind so many; none: one is not numbered so. -/
def scn : List V.KI → Int → Option Int
  | [], n => some n
  | i :: r, n => if i.op = 12 then (if i.a = n + 1 then scn r (n + 1) else none) else scn r n
def tkIs (l c o : Nat) (e m : Int) (fns : List V.KF) : Bool := decide (e = 0) && (decide (m = 1) && (match fns with
  | [p, q] => (match scn p.code 0 with
    | none => false
    | some a => (match scn q.code a with
      | none => false
      | some b => decide (b = 2 * (o : Int) + l + c)))
  | _ => false))
def tkOk (l c o : Nat) : Bool := decide ((begL (tkT l c o)).ts.length < 400) && (match gSrcL (tkT l c o) 400 10000 100 5000 with
  | none => false
  | some (e, _, fns, m) => tkIs l c o e m fns)
def tkAll (o : Nat) : Bool := (List.range 8).all (fun l => (List.range 8).all (fun c => tkOk l c o))
/-- What the document fixes. -/
def awT : List UInt8 := [102, 110, 32, 109, 97, 105, 110, 40, 41, 32, 123, 32, 112, 114, 105, 110, 116, 32, 49, 59, 32, 125]

end Go.Proofs.YtlgdjeiendmniaaGreatDoor
