/- A reader at a text's begin; too many functions or parameters; all functions of a text. · The same of statements, blocks and functions. · Going through a function's names, as plain functions. · The document's going through names, as plain functions; it finds what scope finds. -/
import Derived.Test.YtjeledllejlpcaaGreatDoorZs20
import Derived.Test.YtjeledllejlpcaaGreatDoorZs8
import Derived.Maps.OwnSet
import Derived.StringKeys
import Derived.Test.YtjeledllejlpcaaGreatDoorZs3
set_option linter.unusedSimpArgs false
set_option linter.unusedVariables false
set_option maxRecDepth 10000

namespace Go.Proofs.YtjeledllejlpcaaGreatDoor
open Go.RowKit

theorem lexF_len : ∀ (f : Nat) (s : ByteArray) (o : Nat), (lexF f s o).1.length ≤ f
  | 0, s, o => by simp [lexF]
  | f + 1, s, o => by
    rw [lexF]
    split
    · simp
    · split
      · simp
      · have := lexF_len f s
        simp only [List.length_cons]
        rename_i m _
        have h := this m
        omega

/-- Where a reader stands at a text's begin. -/
def begP (s : ByteArray) : PS := if 4000 < s.size then ⟨[], 0, 0, 2⟩ else match (lexF (s.size + 1) s 0).2 with
  | some b => ⟨[], 0, (b : Nat), 10⟩
  | none => ⟨(lexF (s.size + 1) s 0).1, 0, 0, 0⟩
theorem begP_len (s : ByteArray) : (begP s).ts.length < 4002 := by
  unfold begP
  split
  · simp
  · have := lexF_len (s.size + 1) s 0
    split
    · simp
    · show (lexF (s.size + 1) s 0).1.length < 4002
      omega

theorem begP_long {s : ByteArray} (h : 4000 < s.size) : begP s = ⟨[], 0, 0, 2⟩ := by unfold begP; rw [if_pos h]
theorem begP_bad {s : ByteArray} (h : s.size ≤ 4000) {b : Nat} (hb : (lexF (s.size + 1) s 0).2 = some b) : begP s = ⟨[], 0, (b : Nat), 10⟩ := by unfold begP; rw [if_neg (by omega), hb]
theorem begP_good {s : ByteArray} (h : s.size ≤ 4000) (hb : (lexF (s.size + 1) s 0).2 = none) : begP s = ⟨(lexF (s.size + 1) s 0).1, 0, 0, 0⟩ := by unfold begP; rw [if_neg (by omega), hb]

theorem Sl.own {w1 : World} {base g : Nat} {v : Value} {ts : List Tk} (hown : w1.ownsRow base 81 4 v ts.length (ts.flatMap tkC)) (hg : w1.heap.size ≤ g) (ob : Obj) : Sl (w1.alloc ob) g v ts := by
  obtain ⟨hlen, ⟨e, h0⟩ | ⟨b, cap, cur, rfl, hb, hrow, hc, hcm, _⟩⟩ := id hown
  · have : ts = [] := List.length_eq_zero_iff.1 h0
    subst this
    rw [e]
    exact slNil _ _
  · refine ⟨_, cap, rfl, hc, by unfold maxLen at hcm; omega, Or.inr ⟨b, 0, rfl, Nat.lt_of_lt_of_le (Array.getElem?_eq_some_iff.1 hrow).1 hg, fun j u hu => (Ext.alloc w1 ob).cell (cells_own hown j u hu)⟩⟩

theorem toks_beg (s : ByteArray) (w : World) (he : Er w) (hmax : s.size ≤ 140737488355328) :
    Calls Tryz.prog 17 #[.string s] w fun e w' => ∃ a n cap, e = .returned (.tuple #[.slice a n cap, .int .i64 (begP s).pl, .int .i64 (begP s).e]) ∧ (begP s).op = 0 ∧ (∀ ob, Sl (w'.alloc ob) w'.heap.size (.slice a n cap) (begP s).ts) ∧ Ext w w' := by
  refine (tokens_any s w he hmax).mono ?_
  rintro e w1 (⟨hlong, rfl, hx⟩ | ⟨hlong, b, hb, rfl, hx⟩ | ⟨hlong, hb, v, rfl, hown, hx⟩)
  · rw [begP_long hlong]
    exact ⟨none, 0, 0, rfl, rfl, fun _ => slNil _ _, hx⟩
  · rw [begP_bad hlong hb]
    exact ⟨none, 0, 0, rfl, rfl, fun _ => slNil _ _, hx⟩
  · rw [begP_good hlong hb]
    have hs := fun ob => Sl.own hown (Nat.le_refl _) ob
    obtain ⟨hlen, ⟨e, h0⟩ | ⟨b, cap, cur, e, _⟩⟩ := id hown
    · subst e
      exact ⟨none, 0, 0, rfl, rfl, hs, hx⟩
    · subst e
      exact ⟨_, _, cap, rfl, rfl, hs, hx⟩

set_option maxHeartbeats 1000000 in
theorem pbegin_any (s : ByteArray) (w : World) (he : Er w) (hmax : s.size ≤ 140737488355328) :
    Calls Tryz.prog 9 #[.string s] w fun e w' => ∃ g, e = .returned (.pointer (some ⟨g, 0, none⟩)) ∧ w.heap.size ≤ g ∧ St w' g s.size (begP s) ∧ Ext w w' := by
  have HT := hide (toks_beg s w he hmax)
  generalize begP s = st at *
  obtain ⟨ts, op, pl, er⟩ := st
  go_enter Tryz.func9, Tryz.ntmps9
  go_wp2_with (go_at_call 17; refine Calls.mono (unhide HT) ?_; rintro e w1 ⟨a, n, cap, rfl, hop, hs, hx⟩; have HO := hide hop; have HS := hide hs; have X := hide hx; clear hop hs hx)
  go_ret
  have hop : op = 0 := unhide HO
  subst hop
  exact ⟨_, rfl, (unhide X).le, ⟨⟨_, Go.heap_alloc_new w1 _, unhide HS _⟩⟩, (unhide X).trans (Ext.alloc _ _)⟩

/-- Too many functions, or parameters of one. -/
def tooP (fs : List PFn) : Bool := decide (16 < fs.length) || fs.any (fun p => decide (8 < p.ps.length))

theorem RowF.at {w : World} {F : Nat → Prop} : ∀ {ps : List PFn} {xs : List Value} {j : Nat} {p : PFn}, RowF w F ps xs → ps[j]? = some p → ∃ pa pc a cap, p.ps.length ≤ pc ∧ p.bd.l.length ≤ cap ∧ RepS w F p.ps pa ∧ RepNL w F p.bd.l a ∧ ∀ i u, (fnC p pa pc a cap)[i]? = some u → xs[j * 7 + i]? = some u := by
  intro ps
  induction ps with
  | nil => intro xs j p _ h; simp at h
  | cons q ps ih =>
    intro xs j p hr h
    obtain ⟨pa, pc, a, cap, rest, rfl, hp, hs, hb, hl, hr⟩ := hr
    cases j with
    | zero =>
      obtain rfl : q = p := by simpa using h
      refine ⟨pa, pc, a, cap, hp, hb, hs, hl, fun i u hu => ?_⟩
      rw [Nat.zero_mul, Nat.zero_add, List.getElem?_append_left (List.getElem?_eq_some_iff.1 hu).1]
      exact hu
    | succ j =>
      obtain ⟨pa', pc', a', cap', hp', hb', hs', hl', hc⟩ := ih hr (by simpa using h)
      refine ⟨pa', pc', a', cap', hp', hb', hs', hl', fun i u hu => ?_⟩
      rw [List.getElem?_append_right (by show 7 ≤ _; omega)]
      have := hc i u hu
      rw [show (j + 1) * 7 + i - (fnC q pa pc a cap).length = j * 7 + i by show (j + 1) * 7 + i - 7 = _; omega]
      exact this

set_option maxHeartbeats 1000000 in
theorem tooF_any (nm : ByteArray) (pa : Option Addr) (pn pc : Nat) (k o : Int) (s : ByteArray) (n : Int) (a : Option Addr) (ln cap : Nat) (W : World) :
    Calls Tryz.prog 21 #[funV nm pa pn pc k o s n a ln cap] W fun e w' => e = .returned (.bool (decide (8 < pn))) ∧ Ext W w' := by
  go_enter Tryz.func21, Tryz.ntmps21
  go_wp2_with fail
  go_ret
  refine ⟨?_, Ext.alloc _ _⟩
  congr 2
  simp
  omega

theorem callTooF (v : Value) (W : World) : (callFunc 21 #[v]).run Tryz.prog W = .ok (.enter 21 #[v]) W := by kernel_rfl

set_option maxHeartbeats 1000000 in
theorem idx_fun (fs : List PFn) (a : Option Addr) (cap : Nat) (F : Nat → Prop) (w : World) (hr : RepFL w F fs a) (hcap : fs.length ≤ cap) (hf2 : fs.length ≤ 100001) :
    Calls Tryz.prog 32 #[.slice a fs.length cap, fnV 21] w fun e w' => (∃ r : Int, e = .returned (.int .i64 r) ∧ (decide (0 ≤ r) = fs.any (fun p => decide (8 < p.ps.length)))) ∧ Ext w w' := by
  have HR := hide hr
  have HC := hide callTooF
  clear hr
  go_enter Tryz.func32, Tryz.ntmps32
  go_wp2_with fail
  go_loopw [8] (fun i wr => ∃ j : Nat, i = .int .i64 j ∧ j ≤ fs.length ∧ Hd ((fs.take j).any (fun p => decide (8 < p.ps.length)) = false) ∧ Hd (Ext w wr)) (fun i _ => fs.length - (intOf i).toNat)
  case atStart => exact ⟨0, rfl, by omega, by simp [Hd], Ext.refl _⟩
  case round =>
    obtain ⟨j, rfl, hj, hN, hE⟩ := hrel
    by_cases hlt : j < fs.length
    · obtain ⟨p, hp⟩ : ∃ p, fs[j]? = some p := ⟨_, List.getElem?_eq_getElem hlt⟩
      rcases unhide HR with hnil | ⟨b, off, xs, rfl, hb, hx, hc⟩
      · rw [hnil] at hlt; simp at hlt
      obtain ⟨pa, pc, a2, cap2, h1, h2, _, _, hat⟩ := hx.at hp
      have p0 := (unhide hE).cell (hc _ _ (hat 0 _ rfl))
      have p1 := (unhide hE).cell (hc _ _ (hat 1 _ rfl))
      have p2 := (unhide hE).cell (hc _ _ (hat 2 _ rfl))
      have p3 := (unhide hE).cell (hc _ _ (hat 3 _ rfl))
      have p4 := (unhide hE).cell (hc _ _ (hat 4 _ rfl))
      have p5 := (unhide hE).cell (hc _ _ (hat 5 _ rfl))
      have p6 := (unhide hE).cell (hc _ _ (hat 6 _ rfl))
      simp only [← Nat.add_assoc, Nat.add_zero] at p0 p1 p2 p3 p4 p5 p6
      have hT := tooF_any p.nm pa p.ps.length pc p.bd.k p.bd.o p.bd.s p.bd.n a2 p.bd.l.length cap2
      have HT := hide hT
      clear hT hx hc hat hb
      have htk : fs.take (j + 1) = fs.take j ++ [p] := by
        rw [List.take_succ_eq_append_getElem hlt, (List.getElem?_eq_some_iff.1 hp).2]
      cases hd : decide (8 < p.ps.length)
      · rw [hd] at HT
        have HN2 : Hd ((fs.take (j + 1)).any (fun p => decide (8 < p.ps.length)) = false) := by
          unfold Hd
          rw [htk, List.any_append, unhide hN]
          simpa using hd
        clear htk hd hp
        go_wp2_with (go_at_call 21; refine Calls.mono (unhide HT _) ?_; rintro e w1 ⟨rfl, hw⟩; have X := hide hw; clear hw)
        go_roundw
        case rel => exact ⟨j + 1, by go_num, by omega, HN2, (unhide hE).trans (unhide X)⟩
        case measure => simp [intOf]; omega
      · rw [hd] at HT
        have HA : Hd (fs.any (fun p => decide (8 < p.ps.length)) = true) := List.any_eq_true.2 ⟨p, List.mem_of_getElem? hp, hd⟩
        clear htk hd hp
        go_wp2_with (go_at_call 21; refine Calls.mono (unhide HT _) ?_; rintro e w1 ⟨rfl, hw⟩; have X := hide hw; clear hw)
        go_ret
        exact ⟨⟨_, rfl, by rw [unhide HA]; simp⟩, (unhide hE).trans (unhide X)⟩
    · have hj2 : j = fs.length := by omega
      have HA : Hd (fs.any (fun p => decide (8 < p.ps.length)) = false) := by
        have h := unhide hN
        rw [hj2, List.take_length] at h
        exact h
      clear hj2
      go_wp2_with fail
      go_ret
      exact ⟨⟨_, rfl, by rw [unhide HA]; decide⟩, unhide hE⟩

set_option maxHeartbeats 1000000 in
theorem too_any (fs : List PFn) (a : Option Addr) (cap : Nat) (F : Nat → Prop) (w : World) (hr : RepFL w F fs a) (hcap : fs.length ≤ cap) (hf2 : fs.length ≤ 100001) :
    Calls Tryz.prog 11 #[.slice a fs.length cap] w fun e w' => e = .returned (.bool (tooP fs)) ∧ Ext w w' := by
  have HI := hide (idx_fun fs a cap F w hr hcap hf2)
  have HC : Hd (Calls Tryz.prog 20 #[.slice a fs.length cap, fnV 21] w fun e w' => e = .returned (.bool (fs.any (fun p => decide (8 < p.ps.length)))) ∧ Ext w w') := by
    unfold Hd
    go_enter Tryz.func20, Tryz.ntmps20
    go_wp2_with (go_at_call 32; refine Calls.mono (unhide HI) ?_; rintro e w1 ⟨⟨r, rfl, hq⟩, hw⟩; have X := hide hw; have Q := hide hq; clear hw hq)
    go_ret
    exact ⟨by rw [← unhide Q]; rfl, unhide X⟩
  clear HI hr
  unfold tooP
  cases h16 : decide (16 < fs.length)
  · have h : ¬ 16 < fs.length := by simpa using h16
    have h2 : decide ((16 : Int) < (fs.length : Int)) = false := by simp; omega
    clear h16
    go_enter Tryz.func11, Tryz.ntmps11
    go_wp2_with (go_at_call 20; refine Calls.mono (unhide HC) ?_; rintro e w1 ⟨rfl, hw⟩; have X := hide hw; clear hw)
    go_ret
    exact ⟨by simp, unhide X⟩
  · have h : 16 < fs.length := by simpa using h16
    have h2 : decide ((16 : Int) < (fs.length : Int)) = true := by simp; omega
    clear h16
    go_enter Tryz.func11, Tryz.ntmps11
    go_wp2_with fail
    go_ret
    exact ⟨by simp, Ext.refl _⟩

/-- The functions that a text tells, and where its reader stands behind them. -/
def rdP (s : ByteArray) (f : Nat) : List PFn × PS := funsP s.size (stsP s.size f f).2.1 f f [] (begP s)

/-- What Program answers, by what was read. -/
def ProgOf (q : List PFn × PS) (w : World) (e : Ending) (w' : World) : Prop :=
  Ext w w' ∧ ((q.2.e ≠ 0 ∧ e = .returned (.tuple #[.slice none 0 0, .int .i64 q.2.pl, .int .i64 q.2.e])) ∨
  (q.2.e = 0 ∧ tooP q.1 = true ∧ e = .returned (.tuple #[.slice none 0 0, .int .i64 0, .int .i64 65])) ∨
  (q.2.e = 0 ∧ tooP q.1 = false ∧ ∃ a cap, e = .returned (.tuple #[.slice a q.1.length cap, .int .i64 0, .int .i64 0]) ∧ q.1.length ≤ cap ∧ RepFL w' (Fr w.heap.size w'.heap.size) q.1 a))

theorem funs_len (len : Nat) (bl : Rdr) (f : Nat) (hb : Shorter bl) : ∀ (j : Nat) (acc : List PFn) (st : PS), (funsP len bl f j acc st).1.length ≤ acc.length + st.ts.length
  | 0, acc, st => by simp [funsP]
  | j + 1, acc, st => by
    rw [funsP]
    split
    · simp
    · rename_i hz
      have hne : st.ts ≠ [] := fun e => by rw [e] at hz; simp at hz
      have h1 := funs_len len bl f hb j (acc ++ [(funP len bl f st).1]) (funP len bl f st).2
      have h2 := fun_lt (len := len) (f := f) hb hne
      simp at h1
      omega

theorem opx_lt {w : World} (h : Opx w) : 4 < w.heap.size :=
  World.block_lt_of_cell? w ⟨4, 0, none⟩ (h 0 _ rfl)

set_option maxHeartbeats 1000000 in
theorem program_any (s : ByteArray) (f : Nat) (w : World) (he : Er w) (hO : Opx w) (hmax : s.size ≤ 140737488355328) (hf : (begP s).ts.length < f) (hf2 : f ≤ 100000) :
    Calls Tryz.prog 6 #[.string s] w (ProgOf (rdP s f) w) := by
  have HBg := hide (pbegin_any s w he hmax)
  have hlen := funs_len s.size (stsP s.size f f).2.1 f (blkIs_le s.size f) f [] (begP s)
  have HF := hide (fun gg W (x : Rs W gg s.size (begP s)) => funs_any s.size gg (stsP s.size f f).2.1 f (begP s) W x hf hf2 (blkIs_le s.size f) (fun p hp => (blkIs gg s.size f hf2).ex p W (by omega)))
  have hp := opx_lt hO
  have HO := hide hO
  replace HF : Hd (∀ gg W, Rs W gg s.size (begP s) → Calls Tryz.prog 10 #[.pointer (some ⟨gg, 0, none⟩)] W (FunsAre gg s.size W (rdP s f))) := HF
  replace hlen : (rdP s f).1.length ≤ 100001 := by
    have : (rdP s f).1.length ≤ 0 + (begP s).ts.length := hlen
    omega
  generalize rdP s f = q at *
  generalize begP s = st0 at *
  obtain ⟨fs, ⟨ts, op, pl, er⟩⟩ := q
  clear hO hf he
  by_cases h0 : er = 0
  · subst h0
    cases ht : tooP fs
    · go_enter Tryz.func6, Tryz.ntmps6
      go_wp2_with (first
        | (go_at_call 9; refine Calls.mono (unhide HBg) ?_; rintro e w1 ⟨gg, rfl, hgg, hs, hw⟩; have S1 := hide hs; have X1 := hide hw; have O1 := hide (Rs.mk hs ((unhide HO).ext hw) (by omega)); clear hw hs)
        | (go_at_call 10; refine Calls.mono (unhide HF gg _ (unhide O1)) ?_; rintro e w2 ⟨a, cap, rfl, hcap, hfl, hs, hw⟩; have HTo := hide (too_any fs a cap _ w2 hfl hcap hlen); have c3 : w2.cell? ⟨gg, 3, none⟩ = some (.int .i64 pl) := (by obtain ⟨T, h1, _⟩ := hs.ex; exact rowC h1 3 rfl); have c4 : w2.cell? ⟨gg, 4, none⟩ = some (.int .i64 0) := (by obtain ⟨T, h1, _⟩ := hs.ex; exact rowC h1 4 rfl); have FL := hide hfl; have X2 := hide ((unhide X1).gr hw hgg); have hz2 : w1.heap.size ≤ w2.heap.size := hw.size; have hz1 : w.heap.size ≤ w1.heap.size := (unhide X1).le; clear hw hs hfl)
        | (go_at_call 11; refine Calls.mono (unhide HTo) ?_; rintro e w3 ⟨he, hw⟩; rw [ht] at he; obtain rfl := he; have X3 := hide hw; clear hw))
      exact bodyPost_ret (v := .tuple #[.slice a fs.length cap, .int .i64 0, .int .i64 0]) (by simp [results, Tryz.results6]) rfl ⟨(unhide X2).trans (unhide X3), Or.inr (Or.inr ⟨rfl, ht, a, cap, rfl, hcap, RepFL.to (fun b hb => ⟨⟨by have := hb.1; omega, Nat.lt_of_lt_of_le hb.2 (unhide X3).le⟩, (unhide X3).block b hb.2⟩) (unhide FL)⟩)⟩
    · go_enter Tryz.func6, Tryz.ntmps6
      go_wp2_with (first
        | (go_at_call 9; refine Calls.mono (unhide HBg) ?_; rintro e w1 ⟨gg, rfl, hgg, hs, hw⟩; have S1 := hide hs; have X1 := hide hw; have O1 := hide (Rs.mk hs ((unhide HO).ext hw) (by omega)); clear hw hs)
        | (go_at_call 10; refine Calls.mono (unhide HF gg _ (unhide O1)) ?_; rintro e w2 ⟨a, cap, rfl, hcap, hfl, hs, hw⟩; have HTo := hide (too_any fs a cap _ w2 hfl hcap hlen); have c3 : w2.cell? ⟨gg, 3, none⟩ = some (.int .i64 pl) := (by obtain ⟨T, h1, _⟩ := hs.ex; exact rowC h1 3 rfl); have c4 : w2.cell? ⟨gg, 4, none⟩ = some (.int .i64 0) := (by obtain ⟨T, h1, _⟩ := hs.ex; exact rowC h1 4 rfl); have FL := hide hfl; have X2 := hide ((unhide X1).gr hw hgg); have hz2 : w1.heap.size ≤ w2.heap.size := hw.size; have hz1 : w.heap.size ≤ w1.heap.size := (unhide X1).le; clear hw hs hfl)
        | (go_at_call 11; refine Calls.mono (unhide HTo) ?_; rintro e w3 ⟨he, hw⟩; rw [ht] at he; obtain rfl := he; have X3 := hide hw; clear hw))
      exact bodyPost_ret (v := .tuple #[.slice none 0 0, .int .i64 0, .int .i64 65]) (by simp [results, Tryz.results6]) rfl ⟨(unhide X2).trans (unhide X3), Or.inr (Or.inl ⟨rfl, ht, rfl⟩)⟩
  · have h1 : (er == 0) = false := by simpa using h0
    have h2 : (er != 0) = true := by simp [h0]
    have H0 := hide h0
    clear h0
    go_enter Tryz.func6, Tryz.ntmps6
    go_wp2_with (first
      | (go_at_call 9; refine Calls.mono (unhide HBg) ?_; rintro e w1 ⟨gg, rfl, hgg, hs, hw⟩; have S1 := hide hs; have X1 := hide hw; have O1 := hide (Rs.mk hs ((unhide HO).ext hw) (by omega)); clear hw hs)
      | (go_at_call 10; refine Calls.mono (unhide HF gg _ (unhide O1)) ?_; rintro e w2 ⟨a, cap, rfl, hcap, hfl, hs, hw⟩; have HTo := hide (too_any fs a cap _ w2 hfl hcap hlen); have c3 : w2.cell? ⟨gg, 3, none⟩ = some (.int .i64 pl) := (by obtain ⟨T, h1, _⟩ := hs.ex; exact rowC h1 3 rfl); have c4 : w2.cell? ⟨gg, 4, none⟩ = some (.int .i64 er) := (by obtain ⟨T, h1, _⟩ := hs.ex; exact rowC h1 4 rfl); have FL := hide hfl; have X2 := hide ((unhide X1).gr hw hgg); have hz2 : w1.heap.size ≤ w2.heap.size := hw.size; have hz1 : w.heap.size ≤ w1.heap.size := (unhide X1).le; clear hw hs hfl))
    go_region
    go_wp2_with fail
    exact bodyPost_ret (v := .tuple #[.slice none 0 0, .int .i64 pl, .int .i64 er]) (by simp [results, Tryz.results6]) rfl ⟨(unhide X2).trans (Ext.drew (Ext.refl _)), Or.inl ⟨unhide H0, rfl⟩⟩

end Go.Proofs.YtjeledllejlpcaaGreatDoor

namespace Go.Proofs.YtjeledllejlpcaaGreatDoor
open Go.RowKit

theorem JX.g {st : PS} {r : PN × PS} (h : JX nX st r) : JX gX st r := ⟨h.kp, h.tz, h.x.g, h.z⟩
theorem gX.one {a : PN} {k o : Int} {s : ByteArray} {n : Int} (hk : k ≠ 4 ∧ k ≠ 5 ∧ k ≠ 6) (hs : s.size ≤ 4000) (h : gX a) : gX ⟨k, o, s, n, [a]⟩ :=
  gX.mk hs (fun e => absurd e hk.1) (fun e => e.elim (fun e => absurd e hk.2.1) (fun e => absurd e hk.2.2)) (fun x hx => by simp at hx; subst hx; exact h)
theorem gX.two {a b : PN} {k o : Int} {s : ByteArray} {n : Int} (hk : k ≠ 4 ∧ k ≠ 5 ∧ k ≠ 6) (hs : s.size ≤ 4000) (h : gX a) (h2 : gX b) : gX ⟨k, o, s, n, [a, b]⟩ :=
  gX.mk hs (fun e => absurd e hk.1) (fun e => e.elim (fun e => absurd e hk.2.1) (fun e => absurd e hk.2.2)) (fun x hx => by simp at hx; rcases hx with rfl | rfl; exact h; exact h2)
theorem gX.three {a b c : PN} {k o : Int} {s : ByteArray} {n : Int} (hk : k ≠ 4 ∧ k ≠ 5 ∧ k ≠ 6) (hs : s.size ≤ 4000) (h : gX a) (h2 : gX b) (h3 : gX c) : gX ⟨k, o, s, n, [a, b, c]⟩ :=
  gX.mk hs (fun e => absurd e hk.1) (fun e => e.elim (fun e => absurd e hk.2.1) (fun e => absurd e hk.2.2)) (fun x hx => by simp at hx; rcases hx with rfl | rfl | rfl; exact h; exact h2; exact h3)
theorem nsz1 (k o : Int) (s : ByteArray) (n : Int) (a : PN) : nsz ⟨k, o, s, n, [a]⟩ = 1 + nsz a := by rw [nsz, nszL, nszL]; omega
theorem nszB (k o : Int) (s : ByteArray) (n : Int) (a b : PN) : nsz ⟨k, o, s, n, [a, b]⟩ = 1 + nsz a + nsz b := by rw [nsz, nszL, nszL, nszL]; omega
theorem nszC (k o : Int) (s : ByteArray) (n : Int) (a b c : PN) : nsz ⟨k, o, s, n, [a, b, c]⟩ = 1 + nsz a + nsz b + nsz c := by rw [nsz, nszL, nszL, nszL, nszL]; omega

/-- A statement that ends in a semicolon, of an expression. -/
theorem ofEx_j {len : Nat} {ex : Rdr} {n : Nat} (h : JR nX n ex) {k : Int} (hk : k ≠ 4 ∧ k ≠ 5 ∧ k ≠ 6) : JR gX n (ofExP len ex k) := fun st nv tz hl => by
  have j := h st nv tz hl
  have kS := psign_kp (j.kp.nv nv) len ⟨#[59]⟩
  refine ⟨j.kp.trans kS, j.tz.sign len _, gX.one hk (Nat.zero_le _) j.x.g, fun e0 => ?_⟩
  have e1 : ((ex st).2.sign len ⟨#[59]⟩).e = 0 := e0
  have q1 := sign_z e1
  have q2 := j.z (kS.ok e1).1
  show nsz ⟨k, 0, emptyB, 0, [(ex st).1]⟩ + ((ex st).2.sign len ⟨#[59]⟩).ts.length ≤ _
  rw [nsz1]
  omega
theorem plain_j (len : Nat) (k : Int) (n : Nat) (hk : k ≠ 4) : JR gX n (plainP len k) := fun st nv tz hl => by
  refine ⟨psign_kp nv len _, tz.sign len _, gX.mk (Nat.zero_le _) (fun e => absurd e hk) (fun _ => rfl) (fun x h => by cases h), fun e0 => ?_⟩
  have e1 : (st.sign len ⟨#[59]⟩).e = 0 := e0
  have q1 := sign_z e1
  show nsz ⟨k, 0, emptyB, 0, []⟩ + (st.sign len ⟨#[59]⟩).ts.length ≤ _
  rw [nszLeaf]
  omega
theorem answer_j {len : Nat} {ex : Rdr} {n : Nat} (h : JR nX n ex) : JR gX n (answerP len ex) := by
  intro st nv tz hl
  unfold answerP
  split
  · exact plain_j len 7 n (by decide) st nv tz hl
  · exact ofEx_j h (by decide) st nv tz hl
theorem named_j {len : Nat} {ex : Rdr} {n : Nat} (h : JR nX n ex) {k : Int} (hk : k ≠ 4 ∧ k ≠ 5 ∧ k ≠ 6) : JR gX n (namedP len ex k) := fun st nv tz hl => by
  have k1 := name_kp nv len
  have n1 := k1.nv nv
  have k2 := psign_kp n1 len ⟨#[61]⟩
  have h1 := name_le st len
  have h2 := psign_le (st.name len).2 len ⟨#[61]⟩
  have t2 := (tz.name len).sign len ⟨#[61]⟩
  have j := ofEx_j (len := len) h hk ((st.name len).2.sign len ⟨#[61]⟩) (k2.nv n1) t2 (by omega)
  have jx := h ((st.name len).2.sign len ⟨#[61]⟩) (k2.nv n1) t2 (by omega)
  refine ⟨k1.trans (k2.trans j.kp), j.tz, gX.one hk (tz.nm len) jx.x.g, fun e0 => ?_⟩
  have e1 : (ofExP len ex k ((st.name len).2.sign len ⟨#[61]⟩)).2.e = 0 := e0
  have q1 := j.z e1
  show nsz ⟨k, 0, (st.name len).1, 0, [(ex ((st.name len).2.sign len ⟨#[61]⟩)).1]⟩ + (ofExP len ex k ((st.name len).2.sign len ⟨#[61]⟩)).2.ts.length ≤ _
  have q2 : nsz (ofExP len ex k ((st.name len).2.sign len ⟨#[61]⟩)).1 = 1 + nsz (ex ((st.name len).2.sign len ⟨#[61]⟩)).1 := nsz1 _ _ _ _ _
  rw [nsz1]
  omega
theorem blkLoop_j {sm : Rdr} {n : Nat} (h : JR gX n sm) : ∀ (f : Nat) (acc : List PN) (st : PS), (∀ x ∈ acc, gX x) → Nv st → Tz st → st.ts.length < n →
    Kp st (blkLoop sm f acc st).2 ∧ Tz (blkLoop sm f acc st).2 ∧ (∀ x ∈ (blkLoop sm f acc st).1, gX x) ∧ ((blkLoop sm f acc st).2.e = 0 → nszL (blkLoop sm f acc st).1 + (blkLoop sm f acc st).2.ts.length ≤ nszL acc + st.ts.length)
  | 0, acc, st, hp, nv, tz, hl => ⟨Kp.refl nv, tz, hp, fun _ => Nat.le_refl _⟩
  | f + 1, acc, st, hp, nv, tz, hl => by
    rw [blkLoop]
    split
    · exact ⟨Kp.refl nv, tz, hp, fun _ => Nat.le_refl _⟩
    · have j := h st nv tz hl
      have hle := j.le
      obtain ⟨a, b, c, d⟩ := blkLoop_j h f (acc ++ [(sm st).1]) (sm st).2 (fun x hx => by rcases List.mem_append.1 hx with hx | hx; exact hp x hx; simp at hx; subst hx; exact j.x) (j.kp.nv nv) j.tz (by omega)
      refine ⟨j.kp.trans a, b, c, fun e0 => ?_⟩
      have q1 := d e0
      have q2 := j.z (a.ok e0).1
      rw [nszL_append, nszL, nszL] at q1
      omega
theorem blk_j {len : Nat} {sm : Rdr} {n : Nat} (h : JR gX n sm) (f : Nat) : JR gX (n + 1) (blkP len sm f) := by
  intro st nv tz hl
  unfold blkP
  split
  · rename_i hs
    have hne := isS_ne hs
    have n1 := enter_nv nv len
    have k1 := next_kp n1
    have n2 := k1.nv n1
    have hln : (st.enter len).next.ts.length < n := by
      have h9 := next_le (st.enter len)
      have h8 := enter_le st len
      by_cases h0 : (st.enter len).ts = []
      · have : (st.enter len).next.ts = [] := by show (st.enter len).ts.tail = []; rw [h0]; rfl
        rw [this]
        have := List.length_pos_iff.2 hne
        show 0 < n
        omega
      · have := len_next h0; omega
    obtain ⟨a, b, c, d⟩ := blkLoop_j h f [] (st.enter len).next (fun x hx => by cases hx) n2 (tz.enter len).next hln
    have n3 := a.nv n2
    have kS := psign_kp n3 len ⟨#[125]⟩
    refine ⟨br_kp nv (k1.trans (a.trans kS)), b.sign len _, gX.mk (Nat.zero_le _) (fun e => absurd e (by decide)) (fun e => absurd e (by decide)) c, fun e0 => ?_⟩
    have e1 : ((blkLoop sm f [] (st.enter len).next).2.sign len ⟨#[125]⟩).e = 0 := e0
    have q0 := sign_z e1
    have q1 := d (kS.ok e1).1
    have e2 : (st.enter len).e = 0 := (k1.ok (a.ok (kS.ok e1).1).1).1
    have q2 := enter_z e2
    have q3 := len_next (st := st.enter len) (by rw [q2]; exact hne)
    show nsz ⟨10, 0, emptyB, 0, (blkLoop sm f [] (st.enter len).next).1⟩ + ((blkLoop sm f [] (st.enter len).next).2.sign len ⟨#[125]⟩).ts.length ≤ _
    rw [nsz]
    rw [q2] at q3
    rw [nszL] at q1
    omega
  · exact ⟨fail_kp _ _ (by decide), Tz.fail _ _ _, gX.mk (Nat.zero_le _) (fun e => absurd e (by decide)) (fun e => absurd e (by decide)) (fun x h => by cases h), fun e => absurd e (fail_e _ _ (by decide))⟩
/-- What stands behind the word if: the word itself counts. -/
def JC (n : Nat) (ch : Rdr) : Prop := ∀ st, Nv st → Tz st → st.ts.length < n → Kp st (ch st).2 ∧ Tz (ch st).2 ∧ gX (ch st).1 ∧ ((ch st).2.e = 0 → nsz (ch st).1 + (ch st).2.ts.length ≤ st.ts.length + 1)
theorem JC.le {n : Nat} {ch : Rdr} (h : JC n ch) {st : PS} (nv : Nv st) (tz : Tz st) (hl : st.ts.length < n) (hs : Shorter ch) : (ch st).2.ts.length ≤ st.ts.length := hs st
theorem cho_j {ex bl ch bo : Rdr} {n : Nat} (h : JR nX (n + 1) ex) (hb : JR gX (n + 1) bl) (hc : JC n ch) (ho : JR gX n bo) : JC (n + 1) (choP ex bl (othP ch bo)) := by
  intro st nv tz hl
  have j1 := h st nv tz hl
  have n1 := j1.kp.nv nv
  have l1 := j1.le
  have j2 := hb (ex st).2 n1 j1.tz (by omega)
  have n2 := j2.kp.nv n1
  have l2 := j2.le
  unfold choP
  split
  · rename_i hw
    have hne := isW_ne hw
    have k3 := next_kp n2
    have n3 := k3.nv n2
    have q3 := len_next hne
    have t3 := j2.tz.next
    unfold othP
    split
    · rename_i hi
      have hne2 := isW_ne hi
      have k4 := next_kp n3
      have q4 := len_next hne2
      obtain ⟨a, b, c, d⟩ := hc (bl (ex st).2).2.next.next (k4.nv n3) t3.next (by omega)
      refine ⟨j1.kp.trans (j2.kp.trans (k3.trans (k4.trans a))), b, gX.three (by decide) (Nat.zero_le _) j1.x.g j2.x (gX.one (by decide) (Nat.zero_le _) c), fun e0 => ?_⟩
      have e1 : (ch (bl (ex st).2).2.next.next).2.e = 0 := e0
      have z1 := d e1
      have e2 : (bl (ex st).2).2.e = 0 := (k3.ok (k4.ok (a.ok e1).1).1).1
      have z2 := j2.z e2
      have z3 := j1.z (j2.kp.ok e2).1
      show nsz ⟨3, 0, emptyB, 0, [(ex st).1, (bl (ex st).2).1, ⟨10, 0, emptyB, 0, [(ch (bl (ex st).2).2.next.next).1]⟩]⟩ + (ch (bl (ex st).2).2.next.next).2.ts.length ≤ _
      rw [nszC, nsz1]
      omega
    · have j3 := ho (bl (ex st).2).2.next n3 t3 (by omega)
      refine ⟨j1.kp.trans (j2.kp.trans (k3.trans j3.kp)), j3.tz, gX.three (by decide) (Nat.zero_le _) j1.x.g j2.x j3.x, fun e0 => ?_⟩
      have e1 : (bo (bl (ex st).2).2.next).2.e = 0 := e0
      have z1 := j3.z e1
      have e2 : (bl (ex st).2).2.e = 0 := (k3.ok (j3.kp.ok e1).1).1
      have z2 := j2.z e2
      have z3 := j1.z (j2.kp.ok e2).1
      show nsz ⟨3, 0, emptyB, 0, [(ex st).1, (bl (ex st).2).1, (bo (bl (ex st).2).2.next).1]⟩ + (bo (bl (ex st).2).2.next).2.ts.length ≤ _
      rw [nszC]
      omega
  · refine ⟨j1.kp.trans j2.kp, j2.tz, gX.two (by decide) (Nat.zero_le _) j1.x.g j2.x, fun e0 => ?_⟩
    have e2 : (bl (ex st).2).2.e = 0 := e0
    have z2 := j2.z e2
    have z3 := j1.z (j2.kp.ok e2).1
    show nsz ⟨3, 0, emptyB, 0, [(ex st).1, (bl (ex st).2).1]⟩ + (bl (ex st).2).2.ts.length ≤ _
    rw [nszB]
    omega
/-- One word is taken ahead of what follows. -/
theorem ahead_j {st : PS} {r : PN × PS} (nv : Nv st) (hne : st.ts ≠ []) (h : JX gX st.next r) : JX gX st r := ⟨(next_kp nv).trans h.kp, h.tz, h.x, fun e => by have := h.z e; have := len_next hne; omega⟩
theorem stm_j {len : Nat} {ex bl ch : Rdr} {n : Nat} (h : JR nX (n + 1) ex) (hb : JR gX n bl) (hc : JC n ch) : JR gX (n + 1) (stmP len ex bl ch) := by
  intro st nv tz hl
  have k := next_kp nv
  have m := k.nv nv
  have l := next_le st
  have tn := tz.next
  unfold stmP
  split
  · rename_i hw; exact ahead_j nv (isW_ne hw) (named_j h (by decide) _ m tn (by omega))
  split
  · exact named_j h (by decide) st nv tz hl
  split
  · rename_i hw
    have q := len_next (isW_ne hw)
    obtain ⟨a, b, c, d⟩ := hc st.next m tn (by omega)
    exact ⟨k.trans a, b, c, fun e => by have := d e; omega⟩
  split
  · rename_i hw
    have q := len_next (isW_ne hw)
    have j1 := h st.next m tn (by omega)
    have n1 := j1.kp.nv m
    have l1 := j1.le
    have j2 := hb (ex st.next).2 n1 j1.tz (by omega)
    refine ⟨k.trans (j1.kp.trans j2.kp), j2.tz, gX.mk (Nat.zero_le _) (fun _ => ⟨_, _, rfl, j1.x⟩) (fun e => absurd e (by decide)) (fun x hx => by simp at hx; rcases hx with rfl | rfl; exact j1.x.g; exact j2.x), fun e0 => ?_⟩
    have e2 : (bl (ex st.next).2).2.e = 0 := e0
    have z2 := j2.z e2
    have z3 := j1.z (j2.kp.ok e2).1
    show nsz ⟨4, 0, emptyB, 0, [(ex st.next).1, (bl (ex st.next).2).1]⟩ + (bl (ex st.next).2).2.ts.length ≤ _
    rw [nszB]
    omega
  split
  · rename_i hw; exact ahead_j nv (isW_ne hw) (plain_j len 5 (n + 1) (by decide) _ m tn (by omega))
  split
  · rename_i hw; exact ahead_j nv (isW_ne hw) (plain_j len 6 (n + 1) (by decide) _ m tn (by omega))
  split
  · rename_i hw; exact ahead_j nv (isW_ne hw) (answer_j h _ m tn (by omega))
  split
  · rename_i hw; exact ahead_j nv (isW_ne hw) (ofEx_j h (by decide) _ m tn (by omega))
  · exact ofEx_j h (by decide) st nv tz hl
theorem JR.mono {X : PN → Prop} {n m : Nat} {rd : Rdr} (h : JR X n rd) (hm : m ≤ n) : JR X m rd := fun st nv tz hl => h st nv tz (Nat.lt_of_lt_of_le hl hm)
theorem sts_j (len fe : Nat) (f : Nat) : f ≤ fe → JR gX f (stsP len fe f).1 ∧ JR gX f (stsP len fe f).2.1 ∧ JC f (stsP len fe f).2.2 := by
  induction f with
  | zero => exact fun _ => ⟨fun _ _ _ h => absurd h (Nat.not_lt_zero _), fun _ _ _ h => absurd h (Nat.not_lt_zero _), fun _ _ _ h => absurd h (Nat.not_lt_zero _)⟩
  | succ f ih =>
    intro hf
    obtain ⟨h1, h2, h3⟩ := ih (by omega)
    have hx : JR nX (f + 1) (exP len fe) := (ex_j len fe).mono hf
    have e1 : (stsP len fe (f + 1)).1 = stmP len (exP len fe) (stsP len fe f).2.1 (stsP len fe f).2.2 := by rw [stsP]
    have e2 : (stsP len fe (f + 1)).2.1 = blkP len (stsP len fe f).1 (f + 1) := by rw [stsP]
    have e3 : (stsP len fe (f + 1)).2.2 = choP (exP len fe) (blkP len (stsP len fe f).1 (f + 1)) (othP (stsP len fe f).2.2 (stsP len fe f).2.1) := by rw [stsP]
    rw [e1, e2, e3]
    exact ⟨stm_j hx h2 h3, blk_j h1 _, cho_j hx (blk_j h1 _) h3 h2⟩

/-- A function's texts are short, its body stands as it should. -/
def fX (p : PFn) : Prop := p.nm.size ≤ 4000 ∧ (∀ s ∈ p.ps, s.size ≤ 4000) ∧ gX p.bd
theorem parLoop_j (len : Nat) : ∀ (f : Nat) (acc : List ByteArray) (st : PS), (∀ s ∈ acc, s.size ≤ 4000) → Nv st → Tz st → Kp st (parLoop len f acc st).2 ∧ Tz (parLoop len f acc st).2 ∧ ∀ s ∈ (parLoop len f acc st).1, s.size ≤ 4000
  | 0, acc, st, ha, nv, tz => ⟨Kp.refl nv, tz, ha⟩
  | f + 1, acc, st, ha, nv, tz => by
    rw [parLoop]
    split
    · have k1 := next_kp nv
      have n1 := k1.nv nv
      have k2 := name_kp n1 len
      obtain ⟨a, b, c⟩ := parLoop_j len f (acc ++ [(st.next.name len).1]) (st.next.name len).2 (fun s hs => by rcases List.mem_append.1 hs with hs | hs; exact ha s hs; simp at hs; subst hs; exact tz.next.nm len) (k2.nv n1) (tz.next.name len)
      exact ⟨k1.trans (k2.trans a), b, c⟩
    · exact ⟨Kp.refl nv, tz, ha⟩
theorem par_j (len f : Nat) (st : PS) (nv : Nv st) (tz : Tz st) : Kp st (parP len f st).2 ∧ Tz (parP len f st).2 ∧ ∀ s ∈ (parP len f st).1, s.size ≤ 4000 := by
  unfold parP
  split
  · exact ⟨next_kp nv, tz.next, fun s h => by cases h⟩
  · have k1 := name_kp nv len
    obtain ⟨a, b, c⟩ := parLoop_j len f [(st.name len).1] (st.name len).2 (fun s hs => by simp at hs; subst hs; exact tz.nm len) (k1.nv nv) (tz.name len)
    exact ⟨k1.trans (a.trans (psign_kp (a.nv (k1.nv nv)) len _)), b.sign len _, c⟩
theorem fun_j {len : Nat} {bl : Rdr} {n : Nat} (hb : JR gX n bl) (f : Nat) (st : PS) (nv : Nv st) (tz : Tz st) (hl : st.ts.length < n) :
    Kp st (funP len bl f st).2 ∧ Tz (funP len bl f st).2 ∧ fX (funP len bl f st).1 ∧ ((funP len bl f st).2.e = 0 → nsz (funP len bl f st).1.bd + (funP len bl f st).2.ts.length ≤ st.ts.length) := by
  have k1 := pword_kp nv len ⟨#[102, 110]⟩
  have n1 := k1.nv nv
  have t1 := tz.word len ⟨#[102, 110]⟩
  have l1 := word_le st len ⟨#[102, 110]⟩
  have k2 := name_kp n1 len
  have n2 := k2.nv n1
  have t2 := t1.name len
  have l2 := name_le (st.word len ⟨#[102, 110]⟩) len
  have k3 := psign_kp n2 len ⟨#[40]⟩
  have n3 := k3.nv n2
  have l3 := psign_le ((st.word len ⟨#[102, 110]⟩).name len).2 len ⟨#[40]⟩
  obtain ⟨a, b, c⟩ := par_j len f _ n3 (t2.sign len ⟨#[40]⟩)
  have l4 := par_le len f (((st.word len ⟨#[102, 110]⟩).name len).2.sign len ⟨#[40]⟩)
  have j := hb (funB len f st).2 (a.nv n3) b (by show (parP len f (((st.word len ⟨#[102, 110]⟩).name len).2.sign len ⟨#[40]⟩)).2.ts.length < n; omega)
  refine ⟨k1.trans (k2.trans (k3.trans (a.trans j.kp))), j.tz, ⟨t1.nm len, c, j.x⟩, fun e0 => ?_⟩
  have e1 : (bl (funB len f st).2).2.e = 0 := e0
  have z := j.z e1
  show nsz (bl (funB len f st).2).1 + (bl (funB len f st).2).2.ts.length ≤ _
  have l5 : (funB len f st).2.ts.length ≤ st.ts.length := by show (parP len f (((st.word len ⟨#[102, 110]⟩).name len).2.sign len ⟨#[40]⟩)).2.ts.length ≤ _; omega
  omega
def nszF : List PFn → Nat
  | [] => 0
  | p :: l => nsz p.bd + nszF l
theorem nszF_append : ∀ (a b : List PFn), nszF (a ++ b) = nszF a + nszF b
  | [], b => by simp [nszF]
  | p :: a, b => by rw [List.cons_append, nszF, nszF, nszF_append a b]; omega
theorem funs_j {len : Nat} {bl : Rdr} {n : Nat} (hb : JR gX n bl) (f : Nat) : ∀ (j : Nat) (acc : List PFn) (st : PS), (∀ p ∈ acc, fX p) → Nv st → Tz st → st.ts.length < n →
    (∀ p ∈ (funsP len bl f j acc st).1, fX p) ∧ Kp st (funsP len bl f j acc st).2 ∧ ((funsP len bl f j acc st).2.e = 0 → nszF (funsP len bl f j acc st).1 + (funsP len bl f j acc st).2.ts.length ≤ nszF acc + st.ts.length)
  | 0, acc, st, ha, nv, tz, hl => ⟨ha, Kp.refl nv, fun _ => Nat.le_refl _⟩
  | j + 1, acc, st, ha, nv, tz, hl => by
    rw [funsP]
    split
    · exact ⟨ha, Kp.refl nv, fun _ => Nat.le_refl _⟩
    · obtain ⟨a, b, c, d⟩ := fun_j (len := len) hb f st nv tz hl
      have hle : (funP len bl f st).2.ts.length ≤ st.ts.length := by
        by_cases e0 : (funP len bl f st).2.e = 0
        · have := d e0; omega
        · rw [a.nil e0]; exact Nat.zero_le _
      obtain ⟨u, v, x⟩ := funs_j (len := len) hb f j (acc ++ [(funP len bl f st).1]) (funP len bl f st).2 (fun p hp => by rcases List.mem_append.1 hp with hp | hp; exact ha p hp; simp at hp; subst hp; exact c) (a.nv nv) b (by omega)
      refine ⟨u, a.trans v, fun e0 => ?_⟩
      have z1 := x e0
      have z2 := d (v.ok e0).1
      rw [nszF_append, nszF, nszF] at z1
      omega

end Go.Proofs.YtjeledllejlpcaaGreatDoor

namespace Go.Proofs.YtjeledllejlpcaaGreatDoor
open Go.RowKit Go.Maps

/-- What is known while a function is gone through: the names that are visible, their order, the blocks that are open, loops, locals, slots, calls, the first error, how many steps were done; how many names were ever made visible. -/
structure WK where
  lm : List (ByteArray × Int)
  od : List ByteArray
  bk : List Int
  lp : Int
  lc : Int
  sl : List Int
  cl : List Int
  e : Int
  sp : Int
  ct : Nat

def lkp (lm : List (ByteArray × Int)) (s : ByteArray) : Option Int := (lm.find? (fun p => p.1.data.toList == s.data.toList)).map (·.2)
def WK.fail (st : WK) (c : Int) : WK := if st.e = 0 then { st with e := c } else st
def WK.leave (st : WK) : WK := if st.lp = 0 then st.fail 11 else st
def WK.stepTo (st : WK) (n : Int) : WK := if 4194304 < n then WK.fail { st with sp := n } 65 else { st with sp := n }
def WK.step (st : WK) (len : Nat) : WK := st.stepTo (wrap64 (st.sp + (1 + (len : Int) / 4000)))
def WK.use (st : WK) (s : ByteArray) : WK := match lkp st.lm s with
  | none => st.fail 11
  | some v => { st with sl := st.sl ++ [v] }
def WK.put (st : WK) (s : ByteArray) (v : Int) : WK := { st with lm := (s, v) :: st.lm, od := st.od ++ [s], ct := st.ct + 1 }
def WK.up (st : WK) : WK := { st with lc := wrap64 (st.lc + 1) }
def WK.declare (st : WK) (s : ByteArray) : WK := if (lkp st.lm s).isSome then (st.fail 11).up else (st.put s st.lc).up
def WK.letW (st : WK) (s : ByteArray) : WK := WK.declare { st with sl := st.sl ++ [st.lc] } s
def WK.opn (st : WK) : WK := { st with bk := st.bk ++ [(st.od.length : Int)] }
def drp (lm : List (ByteArray × Int)) (s : ByteArray) : List (ByteArray × Int) := lm.filter (fun p => !(p.1.data.toList == s.data.toList))
def WK.shut (st : WK) (b : Nat) : WK := { st with lm := (st.od.drop b).foldl drp st.lm, od := st.od.take b, bk := st.bk.dropLast }
def WK.close (st : WK) : Option WK := match st.bk.getLast? with
  | none => none
  | some b => if 0 ≤ b ∧ b.toNat ≤ st.od.length then some (st.shut b.toNat) else none

def biL : List (ByteArray × Int × Int) := [(⟨#[112, 117, 115, 104]⟩, 13, 2), (⟨#[99, 120]⟩, 14, 2), (⟨#[108, 101, 110]⟩, 17, 1), (⟨#[114, 101]⟩, 18, 1), (⟨#[105, 109]⟩, 19, 1), (⟨#[99, 111, 110, 106]⟩, 20, 1)]
/-- What is built in by that name: its op, how many operands it takes. -/
def biP (s : ByteArray) : Option (Int × Int) := (biL.find? (fun p => p.1.data.toList == s.data.toList)).map (·.2)
def calP (nm : List (ByteArray × Int)) (fs : List PFn) (s : ByteArray) : Option (Int × Int) := match biP s with
  | some (op, n) => some (wrap64 (op + 1000), n)
  | none => match lkp nm s with
    | none => none
    | some i => some (i, (((fs[i.toNat]?).map (·.ps.length)).getD 0 : Nat))
def WK.call (st : WK) (nm : List (ByteArray × Int)) (fs : List PFn) (s : ByteArray) (k : Nat) : WK := match calP nm fs s with
  | none => st.fail 11
  | some (i, n) => if n = k then { st with cl := st.cl ++ [i] } else st.fail 12

def WK.bgn (st : WK) (p : PN) : WK :=
  if p.k = 2 ∨ p.k = 19 then (st.step p.s.size).use p.s else if p.k = 10 then (st.step p.s.size).opn else
  if p.k = 4 then { st.step p.s.size with lp := wrap64 ((st.step p.s.size).lp + 1) } else if p.k = 5 ∨ p.k = 6 then (st.step p.s.size).leave else st.step p.s.size
def WK.fin (st : WK) (nm : List (ByteArray × Int)) (fs : List PFn) (p : PN) : Option WK :=
  if p.k = 1 then some (st.letW p.s) else if p.k = 10 then st.close else if p.k = 4 then some { st with lp := wrap64 (st.lp - 1) } else
  if p.k = 20 then some (st.call nm fs p.s p.l.length) else some st

/-- A text that is no longer than any source. -/
def small (s : ByteArray) : Bool := decide (s.size ≤ 1000000)
/-- Through a tree, what is open as a list, the last first; none: it did not come to its end so soon. -/
def thr (nm : List (ByteArray × Int)) (fs : List PFn) : Nat → List (PN × Nat) → WK → Option WK
  | 0, _, _ => none
  | f + 1, [], st => some st
  | f + 1, (p, d) :: rest, st => if st.e ≠ 0 then some st else
    if d = p.l.length then (match st.fin nm fs p with
      | none => none
      | some st2 => thr nm fs f rest st2) else
    match p.l[d]? with
    | none => none
    | some q => if small q.s then thr nm fs f ((q, 0) :: (p, d + 1) :: rest) (st.bgn q) else none
def prm : List ByteArray → WK → WK
  | [], st => st
  | s :: r, st => if st.e ≠ 0 then st else prm r (st.declare s)
def wkZ (sp : Int) : WK := ⟨[], [], [], 0, 0, [], [], 0, sp, 0⟩
/-- A function: what is known behind it. -/
def fnW (nm : List (ByteArray × Int)) (fs : List PFn) (f : Nat) (sp : Int) (p : PFn) : Option WK := if small p.bd.s && p.ps.all small then (match thr nm fs f [(p.bd, 0)] ((prm p.ps (wkZ sp)).bgn p.bd) with
  | none => none
  | some st => some (if 64 < st.lc then st.fail 65 else st)) else none
/-- The functions' numbers; none: two have one name, or one has a name that is built in. -/
def nums : List PFn → Nat → List (ByteArray × Int) → Option (List (ByteArray × Int))
  | [], _, nm => some nm
  | p :: r, i, nm => if (lkp nm p.nm).isSome || (biP p.nm).isSome then none else nums r (i + 1) ((p.nm, (i : Int)) :: nm)
/-- What the names of a function mean. -/
structure PSc where
  lc : Int
  sl : List Int
  cl : List Int
/-- Of each function; none: it did not come to its end so soon. -/
def chk (nm : List (ByteArray × Int)) (all : List PFn) (f : Nat) : List PFn → Int → List PSc → Option (List PSc × Int)
  | [], _, acc => some (acc, 0)
  | p :: r, sp, acc => match fnW nm all f sp p with
    | none => none
    | some st => if st.e ≠ 0 then some ([], st.e) else chk nm all f r st.sp (acc ++ [⟨st.lc, st.sl, st.cl⟩])
def mainP (nm : List (ByteArray × Int)) (fs : List PFn) : Int := match lkp nm ⟨#[109, 97, 105, 110]⟩ with
  | none => 11
  | some i => if 0 < ((fs[i.toNat]?).map (·.ps.length)).getD 0 then 12 else 0
/-- Check's answer, names being no longer than any source. -/
def checkQ (fs : List PFn) (f : Nat) : Option (List PSc × Int) := match nums fs 0 [] with
  | none => some ([], 11)
  | some nm => match chk nm fs f fs 0 [] with
    | none => none
    | some (l, e) => if e ≠ 0 then some ([], e) else if mainP nm fs ≠ 0 then some ([], mainP nm fs) else some (l, 0)
/-- Check's answer. -/
def checkP (fs : List PFn) (f : Nat) : Option (List PSc × Int) := if fs.all (fun p => small p.nm) then checkQ fs f else none

end Go.Proofs.YtjeledllejlpcaaGreatDoor

namespace Go.Proofs.YtjeledllejlpcaaGreatDoor
open Go.RowKit Go.Maps

/-- What is known while the document goes through a function: the names that are visible, loops, locals, slots, calls, the first error. -/
structure DK where
  see : List (ByteArray × Int)
  lp : Int
  lc : Int
  sl : List Int
  cl : List Int
  e : Int
def fnd (see : List (ByteArray × Int)) (s : ByteArray) : Option Int := lkp see.reverse s
def DK.use (d : DK) (s : ByteArray) : DK := match fnd d.see s with
  | none => { d with e := 11 }
  | some v => { d with sl := d.sl ++ [v] }
def DK.letD (d : DK) (s : ByteArray) : DK := if d.e ≠ 0 then d else if (fnd d.see s).isSome then { d with e := 11 } else { d with see := d.see ++ [(s, d.lc)], sl := d.sl ++ [d.lc], lc := d.lc + 1 }
/-- The first function of that name. -/
def idxF : List PFn → ByteArray → Nat → Option Nat
  | [], _, _ => none
  | p :: r, s, i => if p.nm.data.toList == s.data.toList then some i else idxF r s (i + 1)
def DK.callD (d : DK) (fs : List PFn) (s : ByteArray) (n : Nat) : DK := if d.e ≠ 0 then d else match idxF fs s 0 with
  | some i => if ((fs[i]?).map (·.ps.length)).getD 0 ≠ n then { d with e := 12 } else { d with cl := d.cl ++ [(i : Int)] }
  | none => match biP s with
    | none => { d with e := 11 }
    | some (op, k) => if k ≠ (n : Int) then { d with e := 12 } else { d with cl := d.cl ++ [1000 + op] }
def dEnd (fs : List PFn) (k : Int) (s : ByteArray) (n mark : Nat) (d : DK) : DK :=
  if k = 1 then d.letD s else if k = 10 then { d with see := d.see.take mark } else if k = 20 then d.callD fs s n else d
def dBeg (k : Int) (s : ByteArray) (d : DK) : DK := if k = 2 ∨ k = 19 then d.use s else d
/-- Through a tree. -/
def dW (fs : List PFn) : Nat → PN → DK → DK
  | 0, _, d => d
  | f + 1, p, d => if d.e ≠ 0 then d else
    if p.k = 4 then (match p.l with
      | [c, b] => { dW fs f b { dW fs f c d with lp := (dW fs f c d).lp + 1 } with lp := (dW fs f b { dW fs f c d with lp := (dW fs f c d).lp + 1 }).lp - 1 }
      | _ => d)
    else if p.k = 5 ∨ p.k = 6 then (if d.lp = 0 then { d with e := 11 } else d)
    else dEnd fs p.k p.s p.l.length d.see.length (p.l.foldl (fun d x => dW fs f x d) (dBeg p.k p.s d))

theorem dW_bad (fs : List PFn) : ∀ (f : Nat) (p : PN) (d : DK), d.e ≠ 0 → dW fs f p d = d
  | 0, p, d, h => rfl
  | f + 1, p, d, h => by rw [dW, if_pos h]
theorem fold_bad (fs : List PFn) (f : Nat) : ∀ (l : List PN) (d : DK), d.e ≠ 0 → l.foldl (fun d x => dW fs f x d) d = d
  | [], d, h => rfl
  | x :: l, d, h => by rw [List.foldl_cons, dW_bad fs f x d h]; exact fold_bad fs f l d h
theorem dEnd_e {fs : List PFn} {k : Int} {s : ByteArray} {n mark : Nat} {d : DK} (h : d.e ≠ 0) : (dEnd fs k s n mark d).e = d.e := by
  unfold dEnd
  split
  · unfold DK.letD; rw [if_pos h]
  split
  · rfl
  split
  · unfold DK.callD; rw [if_pos h]
  · rfl

theorem lkp_c (s s' : ByteArray) (v : Int) (r : List (ByteArray × Int)) : lkp ((s', v) :: r) s = if s'.data.toList == s.data.toList then some v else lkp r s := by
  unfold lkp
  rw [List.find?_cons]
  cases h : (s'.data.toList == s.data.toList) <;> simp [h]
theorem nums_idx : ∀ (l : List PFn) (i : Nat) (nm0 nm : List (ByteArray × Int)), nums l i nm0 = some nm → ∀ s, lkp nm s = match lkp nm0 s with
    | some v => some v
    | none => (idxF l s i).map (fun j => (j : Int))
  | [], i, nm0, nm, h, s => by
    rw [nums] at h
    injection h with h
    subst h
    cases lkp nm0 s <;> rfl
  | p :: r, i, nm0, nm, h, s => by
    rw [nums] at h
    split at h
    · cases h
    · rename_i hb
      have hb1 : (lkp nm0 p.nm).isSome = false := by
        cases hx : (lkp nm0 p.nm).isSome with
        | false => rfl
        | true => exact absurd (by rw [hx]; rfl) hb
      have ih := nums_idx r (i + 1) _ nm h s
      rw [ih, lkp_c, idxF]
      cases he : (p.nm.data.toList == s.data.toList)
      · simp
      · have hs : lkp nm0 s = none := by
          have hb2 : lkp nm0 p.nm = none := by simpa using hb1
          unfold lkp at hb2 ⊢
          rw [← (beq_iff_eq.1 he)]
          exact hb2
        rw [hs]
        simp
theorem nums_bi : ∀ (l : List PFn) (i : Nat) (nm0 nm : List (ByteArray × Int)), nums l i nm0 = some nm → ∀ s j, idxF l s i = some j → biP s = none
  | [], i, nm0, nm, h, s, j, hj => by cases hj
  | p :: r, i, nm0, nm, h, s, j, hj => by
    rw [nums] at h
    split at h
    · cases h
    · rename_i hb
      rw [idxF] at hj
      split at hj
      · rename_i he
        have hb1 : (biP p.nm).isSome = false := by
          cases hx : (biP p.nm).isSome with
          | false => rfl
          | true => exact absurd (by rw [hx]; simp) hb
        have hb2 : biP p.nm = none := by simpa using hb1
        unfold biP at hb2 ⊢
        rw [← (beq_iff_eq.1 he)]
        exact hb2
      · exact nums_bi r (i + 1) _ nm h s j hj
theorem biP_op {s : ByteArray} {op n : Int} (h : biP s = some (op, n)) : 0 ≤ op ∧ op ≤ 20 := by
  unfold biP at h
  cases hf : biL.find? (fun p => p.1.data.toList == s.data.toList) with
  | none => rw [hf] at h; cases h
  | some q =>
    rw [hf] at h
    have hm := List.mem_of_find?_eq_some hf
    have hall : biL.all (fun q => decide (0 ≤ q.2.1) && decide (q.2.1 ≤ 20)) = true := by decide +kernel
    have h2 := List.all_eq_true.1 hall q hm
    injection h with h
    have h' : q.2 = (op, n) := h
    rw [h'] at h2
    simpa using h2

/-- What scope knows and what the document knows, as long as nothing is wrong; dl: how many loops scope counts ahead of the document. -/
structure RK (st : WK) (d : DK) (dl : Int) : Prop where
  e : st.e = 0
  lm : st.lm = d.see.reverse
  od : st.od = d.see.map (·.1)
  lp : st.lp = d.lp + dl
  lc : st.lc = d.lc
  sl : st.sl = d.sl
  cl : st.cl = d.cl
  dis : (d.see.map (fun p => p.1.data.toList)).Nodup
  lc0 : 0 ≤ d.lc
  sp0 : 0 ≤ st.sp

theorem drp_all : ∀ (b a : List (ByteArray × Int)), ((a ++ b).map (fun p => p.1.data.toList)).Nodup → (b.map (·.1)).foldl drp (a ++ b).reverse = a.reverse
  | [], a, _ => by simp
  | x :: b, a, h => by
    have h1 : ∀ y ∈ a ++ b, (!(y.1.data.toList == x.1.data.toList)) = true := by
      intro y hy
      rw [List.map_append, List.map_cons] at h
      have hn := List.nodup_append.1 h
      have hc := List.nodup_cons.1 hn.2.1
      simp only [Bool.not_eq_true', beq_eq_false_iff_ne, ne_eq]
      intro e
      rcases List.mem_append.1 hy with hy | hy
      · exact hn.2.2 _ (List.mem_map_of_mem hy) _ (List.mem_cons_self) e
      · exact hc.1 (by rw [← e]; exact List.mem_map_of_mem hy)
    have h2 : drp (a ++ x :: b).reverse x.1 = (a ++ b).reverse := by
      unfold drp
      rw [List.filter_reverse, List.filter_append, List.filter_cons_of_neg (by simp), List.filter_eq_self.2 (fun y hy => h1 y (List.mem_append_left _ hy)), List.filter_eq_self.2 (fun y hy => h1 y (List.mem_append_right _ hy))]
    rw [List.map_cons, List.foldl_cons, h2]
    refine drp_all b a ?_
    rw [List.map_append, List.map_cons] at h
    rw [List.map_append]
    have hn := List.nodup_append.1 h
    exact List.nodup_append.2 ⟨hn.1, (List.nodup_cons.1 hn.2.1).2, fun u hu v hv => hn.2.2 u hu v (List.mem_cons_of_mem _ hv)⟩

/-- Through a tree, by scope's stack: what comes of it, told by what the document finds. -/
def Sim (nm : List (ByteArray × Int)) (fs : List PFn) (c : Nat) (stk rest : List (PN × Nat)) (st : WK) (d d' : DK) (dl : Int) : Prop :=
  (d'.e = 0 → ∃ st', RK st' d' dl ∧ st'.bk = st.bk ∧ st'.sp ≤ st.sp + 2 * c ∧ d'.lp = d.lp ∧ d.see <+: d'.see ∧ ∀ k, thr nm fs (k + 2 * c) stk st = thr nm fs k rest st') ∧
  (d'.e ≠ 0 → ∃ st', st'.e = d'.e ∧ ∀ k, thr nm fs (k + 1 + 2 * c) stk st = some st')

theorem step_ok {st : WK} {n : Nat} (hn : n ≤ 4000) (h0 : 0 ≤ st.sp) (h : st.sp + 2 ≤ 4194304) : ∃ x : Int, st.step n = { st with sp := x } ∧ st.sp ≤ x ∧ x ≤ st.sp + 2 := by
  have h1 : 0 ≤ (n : Int) / 4000 ∧ (n : Int) / 4000 ≤ 1 := by omega
  refine ⟨wrap64 (st.sp + (1 + (n : Int) / 4000)), ?_, ?_, ?_⟩
  · unfold WK.step WK.stepTo
    rw [if_neg]
    unfold wrap64
    omega
  · unfold wrap64; omega
  · unfold wrap64; omega

theorem thr_bad (nm : List (ByteArray × Int)) (fs : List PFn) (f : Nat) (stk : List (PN × Nat)) (st : WK) (h : st.e ≠ 0) : thr nm fs (f + 1) stk st = some st := by
  cases stk with
  | nil => rw [thr]
  | cons q r => obtain ⟨p, d⟩ := q; rw [thr, if_pos h]

end Go.Proofs.YtjeledllejlpcaaGreatDoor
