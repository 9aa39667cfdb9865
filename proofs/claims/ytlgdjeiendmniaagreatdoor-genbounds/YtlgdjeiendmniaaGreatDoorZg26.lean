/- A reader at a text's begin; too many functions or parameters; all functions of a text. · Going through a function's names, as plain functions. · What it is that a world holds what is known while a function is gone through; what stays so. · How what is known turns: a number is set; a row grows. -/
import Derived.Test.YtlgdjeiendmniaaGreatDoorZg25
import Derived.Maps.OwnSet
import Derived.StringKeys
set_option linter.unusedSimpArgs false
set_option linter.unusedVariables false
set_option maxRecDepth 10000

namespace Go.Proofs.YtlgdjeiendmniaaGreatDoor
open Go.RowKit

theorem lexF_len : ∀ (f : Nat) (s : ByteArray) (o : Nat), (lexF f s o).1.length ≤ f
  | 0, s, o => by simp [lexF]
  | f + 1, s, o => by
    rw [lexF]
    split
    · simp
    · split
      · simp
      · have := lexF_len f s
        simp only [List.length_cons]
        rename_i m _
        have h := this m
        omega

/-- Where a reader stands at a text's begin. -/
def begP (s : ByteArray) : PS := if 4000 < s.size then ⟨[], 0, 0, 2⟩ else match (lexF (s.size + 1) s 0).2 with
  | some b => ⟨[], 0, (b : Nat), 10⟩
  | none => ⟨(lexF (s.size + 1) s 0).1, 0, 0, 0⟩
theorem begP_len (s : ByteArray) : (begP s).ts.length < 4002 := by
  unfold begP
  split
  · simp
  · have := lexF_len (s.size + 1) s 0
    split
    · simp
    · show (lexF (s.size + 1) s 0).1.length < 4002
      omega

theorem begP_long {s : ByteArray} (h : 4000 < s.size) : begP s = ⟨[], 0, 0, 2⟩ := by unfold begP; rw [if_pos h]
theorem begP_bad {s : ByteArray} (h : s.size ≤ 4000) {b : Nat} (hb : (lexF (s.size + 1) s 0).2 = some b) : begP s = ⟨[], 0, (b : Nat), 10⟩ := by unfold begP; rw [if_neg (by omega), hb]
theorem begP_good {s : ByteArray} (h : s.size ≤ 4000) (hb : (lexF (s.size + 1) s 0).2 = none) : begP s = ⟨(lexF (s.size + 1) s 0).1, 0, 0, 0⟩ := by unfold begP; rw [if_neg (by omega), hb]

theorem Sl.own {w1 : World} {base g : Nat} {v : Value} {ts : List Tk} (hown : w1.ownsRow base 138 4 v ts.length (ts.flatMap tkC)) (hg : w1.heap.size ≤ g) (ob : Obj) : Sl (w1.alloc ob) g v ts := by
  obtain ⟨hlen, ⟨e, h0⟩ | ⟨b, cap, cur, rfl, hb, hrow, hc, hcm, _⟩⟩ := id hown
  · have : ts = [] := List.length_eq_zero_iff.1 h0
    subst this
    rw [e]
    exact slNil _ _
  · refine ⟨_, cap, rfl, hc, by unfold maxLen at hcm; omega, Or.inr ⟨b, 0, rfl, Nat.lt_of_lt_of_le (Array.getElem?_eq_some_iff.1 hrow).1 hg, fun j u hu => (Ext.alloc w1 ob).cell (cells_own hown j u hu)⟩⟩

theorem toks_beg (s : ByteArray) (w : World) (he : Er w) (hmax : s.size ≤ 140737488355328) :
    Calls Tryz.prog 47 #[.string s] w fun e w' => ∃ a n cap, e = .returned (.tuple #[.slice a n cap, .int .i64 (begP s).pl, .int .i64 (begP s).e]) ∧ (begP s).op = 0 ∧ (∀ ob, Sl (w'.alloc ob) w'.heap.size (.slice a n cap) (begP s).ts) ∧ Ext w w' := by
  refine (tokens_any s w he hmax).mono ?_
  rintro e w1 (⟨hlong, rfl, hx⟩ | ⟨hlong, b, hb, rfl, hx⟩ | ⟨hlong, hb, v, rfl, hown, hx⟩)
  · rw [begP_long hlong]
    exact ⟨none, 0, 0, rfl, rfl, fun _ => slNil _ _, hx⟩
  · rw [begP_bad hlong hb]
    exact ⟨none, 0, 0, rfl, rfl, fun _ => slNil _ _, hx⟩
  · rw [begP_good hlong hb]
    have hs := fun ob => Sl.own hown (Nat.le_refl _) ob
    obtain ⟨hlen, ⟨e, h0⟩ | ⟨b, cap, cur, e, _⟩⟩ := id hown
    · subst e
      exact ⟨none, 0, 0, rfl, rfl, hs, hx⟩
    · subst e
      exact ⟨_, _, cap, rfl, rfl, hs, hx⟩

set_option maxHeartbeats 1000000 in
theorem pbegin_any (s : ByteArray) (w : World) (he : Er w) (hmax : s.size ≤ 140737488355328) :
    Calls Tryz.prog 24 #[.string s] w fun e w' => ∃ g, e = .returned (.pointer (some ⟨g, 0, none⟩)) ∧ w.heap.size ≤ g ∧ St w' g s.size (begP s) ∧ Ext w w' := by
  have HT := hide (toks_beg s w he hmax)
  generalize begP s = st at *
  obtain ⟨ts, op, pl, er⟩ := st
  go_enter Tryz.func24, Tryz.ntmps24
  go_wp2_with (go_at_call 47; refine Calls.mono (unhide HT) ?_; rintro e w1 ⟨a, n, cap, rfl, hop, hs, hx⟩; have HO := hide hop; have HS := hide hs; have X := hide hx; clear hop hs hx)
  go_ret
  have hop : op = 0 := unhide HO
  subst hop
  exact ⟨_, rfl, (unhide X).le, ⟨⟨_, Go.heap_alloc_new w1 _, unhide HS _⟩⟩, (unhide X).trans (Ext.alloc _ _)⟩

/-- Too many functions, or parameters of one. -/
def tooP (fs : List PFn) : Bool := decide (16 < fs.length) || fs.any (fun p => decide (8 < p.ps.length))

theorem RowF.at {w : World} {F : Nat → Prop} : ∀ {ps : List PFn} {xs : List Value} {j : Nat} {p : PFn}, RowF w F ps xs → ps[j]? = some p → ∃ pa pc a cap, p.ps.length ≤ pc ∧ p.bd.l.length ≤ cap ∧ RepS w F p.ps pa ∧ RepNL w F p.bd.l a ∧ ∀ i u, (fnC p pa pc a cap)[i]? = some u → xs[j * 7 + i]? = some u := by
  intro ps
  induction ps with
  | nil => intro xs j p _ h; simp at h
  | cons q ps ih =>
    intro xs j p hr h
    obtain ⟨pa, pc, a, cap, rest, rfl, hp, hs, hb, hl, hr⟩ := hr
    cases j with
    | zero =>
      obtain rfl : q = p := by simpa using h
      refine ⟨pa, pc, a, cap, hp, hb, hs, hl, fun i u hu => ?_⟩
      rw [Nat.zero_mul, Nat.zero_add, List.getElem?_append_left (List.getElem?_eq_some_iff.1 hu).1]
      exact hu
    | succ j =>
      obtain ⟨pa', pc', a', cap', hp', hb', hs', hl', hc⟩ := ih hr (by simpa using h)
      refine ⟨pa', pc', a', cap', hp', hb', hs', hl', fun i u hu => ?_⟩
      rw [List.getElem?_append_right (by show 7 ≤ _; omega)]
      have := hc i u hu
      rw [show (j + 1) * 7 + i - (fnC q pa pc a cap).length = j * 7 + i by show (j + 1) * 7 + i - 7 = _; omega]
      exact this

set_option maxHeartbeats 1000000 in
theorem tooF_any (nm : ByteArray) (pa : Option Addr) (pn pc : Nat) (k o : Int) (s : ByteArray) (n : Int) (a : Option Addr) (ln cap : Nat) (W : World) :
    Calls Tryz.prog 50 #[funV nm pa pn pc k o s n a ln cap] W fun e w' => e = .returned (.bool (decide (8 < pn))) ∧ Ext W w' := by
  go_enter Tryz.func50, Tryz.ntmps50
  go_wp2_with fail
  go_ret
  refine ⟨?_, Ext.alloc _ _⟩
  congr 2
  simp
  omega

theorem callTooF (v : Value) (W : World) : (callFunc 50 #[v]).run Tryz.prog W = .ok (.enter 50 #[v]) W := by kernel_rfl

set_option maxHeartbeats 1000000 in
theorem idx_fun (fs : List PFn) (a : Option Addr) (cap : Nat) (F : Nat → Prop) (w : World) (hr : RepFL w F fs a) (hcap : fs.length ≤ cap) (hf2 : fs.length ≤ 100001) :
    Calls Tryz.prog 19 #[.slice a fs.length cap, fnV 50] w fun e w' => (∃ r : Int, e = .returned (.int .i64 r) ∧ (decide (0 ≤ r) = fs.any (fun p => decide (8 < p.ps.length)))) ∧ Ext w w' := by
  have HR := hide hr
  have HC := hide callTooF
  clear hr
  go_enter Tryz.func19, Tryz.ntmps19
  go_wp2_with fail
  go_loopw [8] (fun i wr => ∃ j : Nat, i = .int .i64 j ∧ j ≤ fs.length ∧ Hd ((fs.take j).any (fun p => decide (8 < p.ps.length)) = false) ∧ Hd (Ext w wr)) (fun i _ => fs.length - (intOf i).toNat)
  case atStart => exact ⟨0, rfl, by omega, by simp [Hd], Ext.refl _⟩
  case round =>
    obtain ⟨j, rfl, hj, hN, hE⟩ := hrel
    by_cases hlt : j < fs.length
    · obtain ⟨p, hp⟩ : ∃ p, fs[j]? = some p := ⟨_, List.getElem?_eq_getElem hlt⟩
      rcases unhide HR with hnil | ⟨b, off, xs, rfl, hb, hx, hc⟩
      · rw [hnil] at hlt; simp at hlt
      obtain ⟨pa, pc, a2, cap2, h1, h2, _, _, hat⟩ := hx.at hp
      have p0 := (unhide hE).cell (hc _ _ (hat 0 _ rfl))
      have p1 := (unhide hE).cell (hc _ _ (hat 1 _ rfl))
      have p2 := (unhide hE).cell (hc _ _ (hat 2 _ rfl))
      have p3 := (unhide hE).cell (hc _ _ (hat 3 _ rfl))
      have p4 := (unhide hE).cell (hc _ _ (hat 4 _ rfl))
      have p5 := (unhide hE).cell (hc _ _ (hat 5 _ rfl))
      have p6 := (unhide hE).cell (hc _ _ (hat 6 _ rfl))
      simp only [← Nat.add_assoc, Nat.add_zero] at p0 p1 p2 p3 p4 p5 p6
      have hT := tooF_any p.nm pa p.ps.length pc p.bd.k p.bd.o p.bd.s p.bd.n a2 p.bd.l.length cap2
      have HT := hide hT
      clear hT hx hc hat hb
      have htk : fs.take (j + 1) = fs.take j ++ [p] := by
        rw [List.take_succ_eq_append_getElem hlt, (List.getElem?_eq_some_iff.1 hp).2]
      cases hd : decide (8 < p.ps.length)
      · rw [hd] at HT
        have HN2 : Hd ((fs.take (j + 1)).any (fun p => decide (8 < p.ps.length)) = false) := by
          unfold Hd
          rw [htk, List.any_append, unhide hN]
          simpa using hd
        clear htk hd hp
        go_wp2_with (go_at_call 50; refine Calls.mono (unhide HT _) ?_; rintro e w1 ⟨rfl, hw⟩; have X := hide hw; clear hw)
        go_roundw
        case rel => exact ⟨j + 1, by go_num, by omega, HN2, (unhide hE).trans (unhide X)⟩
        case measure => simp [intOf]; omega
      · rw [hd] at HT
        have HA : Hd (fs.any (fun p => decide (8 < p.ps.length)) = true) := List.any_eq_true.2 ⟨p, List.mem_of_getElem? hp, hd⟩
        clear htk hd hp
        go_wp2_with (go_at_call 50; refine Calls.mono (unhide HT _) ?_; rintro e w1 ⟨rfl, hw⟩; have X := hide hw; clear hw)
        go_ret
        exact ⟨⟨_, rfl, by rw [unhide HA]; simp⟩, (unhide hE).trans (unhide X)⟩
    · have hj2 : j = fs.length := by omega
      have HA : Hd (fs.any (fun p => decide (8 < p.ps.length)) = false) := by
        have h := unhide hN
        rw [hj2, List.take_length] at h
        exact h
      clear hj2
      go_wp2_with fail
      go_ret
      exact ⟨⟨_, rfl, by rw [unhide HA]; decide⟩, unhide hE⟩

set_option maxHeartbeats 1000000 in
theorem too_any (fs : List PFn) (a : Option Addr) (cap : Nat) (F : Nat → Prop) (w : World) (hr : RepFL w F fs a) (hcap : fs.length ≤ cap) (hf2 : fs.length ≤ 100001) :
    Calls Tryz.prog 26 #[.slice a fs.length cap] w fun e w' => e = .returned (.bool (tooP fs)) ∧ Ext w w' := by
  have HI := hide (idx_fun fs a cap F w hr hcap hf2)
  have HC : Hd (Calls Tryz.prog 30 #[.slice a fs.length cap, fnV 50] w fun e w' => e = .returned (.bool (fs.any (fun p => decide (8 < p.ps.length)))) ∧ Ext w w') := by
    unfold Hd
    go_enter Tryz.func30, Tryz.ntmps30
    go_wp2_with (go_at_call 19; refine Calls.mono (unhide HI) ?_; rintro e w1 ⟨⟨r, rfl, hq⟩, hw⟩; have X := hide hw; have Q := hide hq; clear hw hq)
    go_ret
    exact ⟨by rw [← unhide Q]; rfl, unhide X⟩
  clear HI hr
  unfold tooP
  cases h16 : decide (16 < fs.length)
  · have h : ¬ 16 < fs.length := by simpa using h16
    have h2 : decide ((16 : Int) < (fs.length : Int)) = false := by simp; omega
    clear h16
    go_enter Tryz.func26, Tryz.ntmps26
    go_wp2_with (go_at_call 30; refine Calls.mono (unhide HC) ?_; rintro e w1 ⟨rfl, hw⟩; have X := hide hw; clear hw)
    go_ret
    exact ⟨by simp, unhide X⟩
  · have h : 16 < fs.length := by simpa using h16
    have h2 : decide ((16 : Int) < (fs.length : Int)) = true := by simp; omega
    clear h16
    go_enter Tryz.func26, Tryz.ntmps26
    go_wp2_with fail
    go_ret
    exact ⟨by simp, Ext.refl _⟩

/-- The functions that a text tells, and where its reader stands behind them. -/
def rdP (s : ByteArray) (f : Nat) : List PFn × PS := funsP s.size (stsP s.size f f).2.1 f f [] (begP s)

/-- What Program answers, by what was read. -/
def ProgOf (q : List PFn × PS) (w : World) (e : Ending) (w' : World) : Prop :=
  Ext w w' ∧ ((q.2.e ≠ 0 ∧ e = .returned (.tuple #[.slice none 0 0, .int .i64 q.2.pl, .int .i64 q.2.e])) ∨
  (q.2.e = 0 ∧ tooP q.1 = true ∧ e = .returned (.tuple #[.slice none 0 0, .int .i64 0, .int .i64 65])) ∨
  (q.2.e = 0 ∧ tooP q.1 = false ∧ ∃ a cap, e = .returned (.tuple #[.slice a q.1.length cap, .int .i64 0, .int .i64 0]) ∧ q.1.length ≤ cap ∧ RepFL w' (Fr w.heap.size w'.heap.size) q.1 a))

theorem funs_len (len : Nat) (bl : Rdr) (f : Nat) (hb : Shorter bl) : ∀ (j : Nat) (acc : List PFn) (st : PS), (funsP len bl f j acc st).1.length ≤ acc.length + st.ts.length
  | 0, acc, st => by simp [funsP]
  | j + 1, acc, st => by
    rw [funsP]
    split
    · simp
    · rename_i hz
      have hne : st.ts ≠ [] := fun e => by rw [e] at hz; simp at hz
      have h1 := funs_len len bl f hb j (acc ++ [(funP len bl f st).1]) (funP len bl f st).2
      have h2 := fun_lt (len := len) (f := f) hb hne
      simp at h1
      omega

theorem opx_lt {w : World} (h : Opx w) : 6 < w.heap.size :=
  World.block_lt_of_cell? w ⟨6, 0, none⟩ (h 0 _ rfl)

set_option maxHeartbeats 1000000 in
theorem program_any (s : ByteArray) (f : Nat) (w : World) (he : Er w) (hO : Opx w) (hmax : s.size ≤ 140737488355328) (hf : (begP s).ts.length < f) (hf2 : f ≤ 100000) :
    Calls Tryz.prog 13 #[.string s] w (ProgOf (rdP s f) w) := by
  have HBg := hide (pbegin_any s w he hmax)
  have hlen := funs_len s.size (stsP s.size f f).2.1 f (blkIs_le s.size f) f [] (begP s)
  have HF := hide (fun gg W (x : Rs W gg s.size (begP s)) => funs_any s.size gg (stsP s.size f f).2.1 f (begP s) W x hf hf2 (blkIs_le s.size f) (fun p hp => (blkIs gg s.size f hf2).ex p W (by omega)))
  have hp := opx_lt hO
  have HO := hide hO
  replace HF : Hd (∀ gg W, Rs W gg s.size (begP s) → Calls Tryz.prog 25 #[.pointer (some ⟨gg, 0, none⟩)] W (FunsAre gg s.size W (rdP s f))) := HF
  replace hlen : (rdP s f).1.length ≤ 100001 := by
    have : (rdP s f).1.length ≤ 0 + (begP s).ts.length := hlen
    omega
  generalize rdP s f = q at *
  generalize begP s = st0 at *
  obtain ⟨fs, ⟨ts, op, pl, er⟩⟩ := q
  clear hO hf he
  by_cases h0 : er = 0
  · subst h0
    cases ht : tooP fs
    · go_enter Tryz.func13, Tryz.ntmps13
      go_wp2_with (first
        | (go_at_call 24; refine Calls.mono (unhide HBg) ?_; rintro e w1 ⟨gg, rfl, hgg, hs, hw⟩; have S1 := hide hs; have X1 := hide hw; have O1 := hide (Rs.mk hs ((unhide HO).ext hw) (by omega)); clear hw hs)
        | (go_at_call 25; refine Calls.mono (unhide HF gg _ (unhide O1)) ?_; rintro e w2 ⟨a, cap, rfl, hcap, hfl, hs, hw⟩; have HTo := hide (too_any fs a cap _ w2 hfl hcap hlen); have c3 : w2.cell? ⟨gg, 3, none⟩ = some (.int .i64 pl) := (by obtain ⟨T, h1, _⟩ := hs.ex; exact rowC h1 3 rfl); have c4 : w2.cell? ⟨gg, 4, none⟩ = some (.int .i64 0) := (by obtain ⟨T, h1, _⟩ := hs.ex; exact rowC h1 4 rfl); have FL := hide hfl; have X2 := hide ((unhide X1).gr hw hgg); have hz2 : w1.heap.size ≤ w2.heap.size := hw.size; have hz1 : w.heap.size ≤ w1.heap.size := (unhide X1).le; clear hw hs hfl)
        | (go_at_call 26; refine Calls.mono (unhide HTo) ?_; rintro e w3 ⟨he, hw⟩; rw [ht] at he; obtain rfl := he; have X3 := hide hw; clear hw))
      exact bodyPost_ret (v := .tuple #[.slice a fs.length cap, .int .i64 0, .int .i64 0]) (by simp [results, Tryz.results13]) rfl ⟨(unhide X2).trans (unhide X3), Or.inr (Or.inr ⟨rfl, ht, a, cap, rfl, hcap, RepFL.to (fun b hb => ⟨⟨by have := hb.1; omega, Nat.lt_of_lt_of_le hb.2 (unhide X3).le⟩, (unhide X3).block b hb.2⟩) (unhide FL)⟩)⟩
    · go_enter Tryz.func13, Tryz.ntmps13
      go_wp2_with (first
        | (go_at_call 24; refine Calls.mono (unhide HBg) ?_; rintro e w1 ⟨gg, rfl, hgg, hs, hw⟩; have S1 := hide hs; have X1 := hide hw; have O1 := hide (Rs.mk hs ((unhide HO).ext hw) (by omega)); clear hw hs)
        | (go_at_call 25; refine Calls.mono (unhide HF gg _ (unhide O1)) ?_; rintro e w2 ⟨a, cap, rfl, hcap, hfl, hs, hw⟩; have HTo := hide (too_any fs a cap _ w2 hfl hcap hlen); have c3 : w2.cell? ⟨gg, 3, none⟩ = some (.int .i64 pl) := (by obtain ⟨T, h1, _⟩ := hs.ex; exact rowC h1 3 rfl); have c4 : w2.cell? ⟨gg, 4, none⟩ = some (.int .i64 0) := (by obtain ⟨T, h1, _⟩ := hs.ex; exact rowC h1 4 rfl); have FL := hide hfl; have X2 := hide ((unhide X1).gr hw hgg); have hz2 : w1.heap.size ≤ w2.heap.size := hw.size; have hz1 : w.heap.size ≤ w1.heap.size := (unhide X1).le; clear hw hs hfl)
        | (go_at_call 26; refine Calls.mono (unhide HTo) ?_; rintro e w3 ⟨he, hw⟩; rw [ht] at he; obtain rfl := he; have X3 := hide hw; clear hw))
      exact bodyPost_ret (v := .tuple #[.slice none 0 0, .int .i64 0, .int .i64 65]) (by simp [results, Tryz.results13]) rfl ⟨(unhide X2).trans (unhide X3), Or.inr (Or.inl ⟨rfl, ht, rfl⟩)⟩
  · have h1 : (er == 0) = false := by simpa using h0
    have h2 : (er != 0) = true := by simp [h0]
    have H0 := hide h0
    clear h0
    go_enter Tryz.func13, Tryz.ntmps13
    go_wp2_with (first
      | (go_at_call 24; refine Calls.mono (unhide HBg) ?_; rintro e w1 ⟨gg, rfl, hgg, hs, hw⟩; have S1 := hide hs; have X1 := hide hw; have O1 := hide (Rs.mk hs ((unhide HO).ext hw) (by omega)); clear hw hs)
      | (go_at_call 25; refine Calls.mono (unhide HF gg _ (unhide O1)) ?_; rintro e w2 ⟨a, cap, rfl, hcap, hfl, hs, hw⟩; have HTo := hide (too_any fs a cap _ w2 hfl hcap hlen); have c3 : w2.cell? ⟨gg, 3, none⟩ = some (.int .i64 pl) := (by obtain ⟨T, h1, _⟩ := hs.ex; exact rowC h1 3 rfl); have c4 : w2.cell? ⟨gg, 4, none⟩ = some (.int .i64 er) := (by obtain ⟨T, h1, _⟩ := hs.ex; exact rowC h1 4 rfl); have FL := hide hfl; have X2 := hide ((unhide X1).gr hw hgg); have hz2 : w1.heap.size ≤ w2.heap.size := hw.size; have hz1 : w.heap.size ≤ w1.heap.size := (unhide X1).le; clear hw hs hfl))
    go_region
    go_wp2_with fail
    exact bodyPost_ret (v := .tuple #[.slice none 0 0, .int .i64 pl, .int .i64 er]) (by simp [results, Tryz.results13]) rfl ⟨(unhide X2).trans (Ext.drew (Ext.refl _)), Or.inl ⟨unhide H0, rfl⟩⟩

end Go.Proofs.YtlgdjeiendmniaaGreatDoor

namespace Go.Proofs.YtlgdjeiendmniaaGreatDoor
open Go.RowKit Go.Maps

/-- What is known while a function is gone through: the names that are visible, their order, the blocks that are open, loops, locals, slots, calls, the first error, how many steps were done; how many names were ever made visible. -/
structure WK where
  lm : List (ByteArray × Int)
  od : List ByteArray
  bk : List Int
  lp : Int
  lc : Int
  sl : List Int
  cl : List Int
  e : Int
  sp : Int
  ct : Nat

def lkp (lm : List (ByteArray × Int)) (s : ByteArray) : Option Int := (lm.find? (fun p => p.1.data.toList == s.data.toList)).map (·.2)
def WK.fail (st : WK) (c : Int) : WK := if st.e = 0 then { st with e := c } else st
def WK.leave (st : WK) : WK := if st.lp = 0 then st.fail 11 else st
def WK.stepTo (st : WK) (n : Int) : WK := if 4194304 < n then WK.fail { st with sp := n } 65 else { st with sp := n }
def WK.step (st : WK) (len : Nat) : WK := st.stepTo (wrap64 (st.sp + (1 + (len : Int) / 4000)))
def WK.use (st : WK) (s : ByteArray) : WK := match lkp st.lm s with
  | none => st.fail 11
  | some v => { st with sl := st.sl ++ [v] }
def WK.put (st : WK) (s : ByteArray) (v : Int) : WK := { st with lm := (s, v) :: st.lm, od := st.od ++ [s], ct := st.ct + 1 }
def WK.up (st : WK) : WK := { st with lc := wrap64 (st.lc + 1) }
def WK.declare (st : WK) (s : ByteArray) : WK := if (lkp st.lm s).isSome then (st.fail 11).up else (st.put s st.lc).up
def WK.letW (st : WK) (s : ByteArray) : WK := WK.declare { st with sl := st.sl ++ [st.lc] } s
def WK.opn (st : WK) : WK := { st with bk := st.bk ++ [(st.od.length : Int)] }
def drp (lm : List (ByteArray × Int)) (s : ByteArray) : List (ByteArray × Int) := lm.filter (fun p => !(p.1.data.toList == s.data.toList))
def WK.shut (st : WK) (b : Nat) : WK := { st with lm := (st.od.drop b).foldl drp st.lm, od := st.od.take b, bk := st.bk.dropLast }
def WK.close (st : WK) : Option WK := match st.bk.getLast? with
  | none => none
  | some b => if 0 ≤ b ∧ b.toNat ≤ st.od.length then some (st.shut b.toNat) else none

def biL : List (ByteArray × Int × Int) := [(⟨#[112, 117, 115, 104]⟩, 13, 2), (⟨#[99, 120]⟩, 14, 2), (⟨#[108, 101, 110]⟩, 17, 1), (⟨#[114, 101]⟩, 18, 1), (⟨#[105, 109]⟩, 19, 1), (⟨#[99, 111, 110, 106]⟩, 20, 1)]
/-- What is built in by that name: its op, how many operands it takes. -/
def biP (s : ByteArray) : Option (Int × Int) := (biL.find? (fun p => p.1.data.toList == s.data.toList)).map (·.2)
def calP (nm : List (ByteArray × Int)) (fs : List PFn) (s : ByteArray) : Option (Int × Int) := match biP s with
  | some (op, n) => some (wrap64 (op + 1000), n)
  | none => match lkp nm s with
    | none => none
    | some i => some (i, (((fs[i.toNat]?).map (·.ps.length)).getD 0 : Nat))
def WK.call (st : WK) (nm : List (ByteArray × Int)) (fs : List PFn) (s : ByteArray) (k : Nat) : WK := match calP nm fs s with
  | none => st.fail 11
  | some (i, n) => if n = k then { st with cl := st.cl ++ [i] } else st.fail 12

def WK.bgn (st : WK) (p : PN) : WK :=
  if p.k = 2 ∨ p.k = 19 then (st.step p.s.size).use p.s else if p.k = 10 then (st.step p.s.size).opn else
  if p.k = 4 then { st.step p.s.size with lp := wrap64 ((st.step p.s.size).lp + 1) } else if p.k = 5 ∨ p.k = 6 then (st.step p.s.size).leave else st.step p.s.size
def WK.fin (st : WK) (nm : List (ByteArray × Int)) (fs : List PFn) (p : PN) : Option WK :=
  if p.k = 1 then some (st.letW p.s) else if p.k = 10 then st.close else if p.k = 4 then some { st with lp := wrap64 (st.lp - 1) } else
  if p.k = 20 then some (st.call nm fs p.s p.l.length) else some st

/-- A text that is no longer than any source. -/
def small (s : ByteArray) : Bool := decide (s.size ≤ 1000000)
/-- Through a tree, what is open as a list, the last first; none: it did not come to its end so soon. -/
def thr (nm : List (ByteArray × Int)) (fs : List PFn) : Nat → List (PN × Nat) → WK → Option WK
  | 0, _, _ => none
  | f + 1, [], st => some st
  | f + 1, (p, d) :: rest, st => if st.e ≠ 0 then some st else
    if d = p.l.length then (match st.fin nm fs p with
      | none => none
      | some st2 => thr nm fs f rest st2) else
    match p.l[d]? with
    | none => none
    | some q => if small q.s then thr nm fs f ((q, 0) :: (p, d + 1) :: rest) (st.bgn q) else none
def prm : List ByteArray → WK → WK
  | [], st => st
  | s :: r, st => if st.e ≠ 0 then st else prm r (st.declare s)
def wkZ (sp : Int) : WK := ⟨[], [], [], 0, 0, [], [], 0, sp, 0⟩
/-- A function: what is known behind it. -/
def fnW (nm : List (ByteArray × Int)) (fs : List PFn) (f : Nat) (sp : Int) (p : PFn) : Option WK := if small p.bd.s && p.ps.all small then (match thr nm fs f [(p.bd, 0)] ((prm p.ps (wkZ sp)).bgn p.bd) with
  | none => none
  | some st => some (if 64 < st.lc then st.fail 65 else st)) else none
/-- The functions' numbers; none: two have one name, or one has a name that is built in. -/
def nums : List PFn → Nat → List (ByteArray × Int) → Option (List (ByteArray × Int))
  | [], _, nm => some nm
  | p :: r, i, nm => if (lkp nm p.nm).isSome || (biP p.nm).isSome then none else nums r (i + 1) ((p.nm, (i : Int)) :: nm)
/-- What the names of a function mean. -/
structure PSc where
  lc : Int
  sl : List Int
  cl : List Int
/-- Of each function; none: it did not come to its end so soon. -/
def chk (nm : List (ByteArray × Int)) (all : List PFn) (f : Nat) : List PFn → Int → List PSc → Option (List PSc × Int)
  | [], _, acc => some (acc, 0)
  | p :: r, sp, acc => match fnW nm all f sp p with
    | none => none
    | some st => if st.e ≠ 0 then some ([], st.e) else chk nm all f r st.sp (acc ++ [⟨st.lc, st.sl, st.cl⟩])
def mainP (nm : List (ByteArray × Int)) (fs : List PFn) : Int := match lkp nm ⟨#[109, 97, 105, 110]⟩ with
  | none => 11
  | some i => if 0 < ((fs[i.toNat]?).map (·.ps.length)).getD 0 then 12 else 0
/-- Check's answer, names being no longer than any source. -/
def checkQ (fs : List PFn) (f : Nat) : Option (List PSc × Int) := match nums fs 0 [] with
  | none => some ([], 11)
  | some nm => match chk nm fs f fs 0 [] with
    | none => none
    | some (l, e) => if e ≠ 0 then some ([], e) else if mainP nm fs ≠ 0 then some ([], mainP nm fs) else some (l, 0)
/-- Check's answer. -/
def checkP (fs : List PFn) (f : Nat) : Option (List PSc × Int) := if fs.all (fun p => small p.nm) then checkQ fs f else none

end Go.Proofs.YtlgdjeiendmniaaGreatDoor

namespace Go.Proofs.YtlgdjeiendmniaaGreatDoor
open Go.RowKit Go.Maps

theorem keyS : Keyed Tryz.prog 9 := string_keyed Tryz.underlying9
theorem zeroI (w : World) : (zeroValue 3).run Tryz.prog w = .ok (.int .i64 0) w := by kernel_rfl
abbrev kyS (s : ByteArray) : Lit := .string s.data.toList

/-- The block bm is a map of at most n entries that has the names as lm says. -/
def MapIs (w : World) (bm n : Nat) (lm : List (ByteArray × Int)) : Prop := ∃ D : DataW Unit, w.ownsMap Tryz.prog 9 (plainElem Tryz.prog 3) bm n D ∧
  ∀ s : ByteArray, Maps.has D (kyS s) = (lkp lm s).isSome ∧ ∀ v, lkp lm s = some v → D.atKey (kyS s) (.lit (.int .i64 0)) = .lit (.int .i64 v)

theorem MapIs.keep {w w' : World} {bm n : Nat} {lm : List (ByteArray × Int)} (h : MapIs w bm n lm) (hk : w'.heap[bm]? = w.heap[bm]?) : MapIs w' bm n lm := by
  obtain ⟨D, ⟨es, clock, hb, r⟩, hs⟩ := h
  exact ⟨D, ⟨es, clock, hk.trans hb, r⟩, hs⟩
theorem MapIs.lt {w : World} {bm n : Nat} {lm : List (ByteArray × Int)} (h : MapIs w bm n lm) : bm < w.heap.size := by
  obtain ⟨D, ⟨es, clock, hb, r⟩, hs⟩ := h
  exact (Array.getElem?_eq_some_iff.1 hb).1
theorem MapIs.made (w : World) : MapIs (w.alloc (.map #[] 0)) w.heap.size 0 [] :=
  ⟨.map [], World.ownsMap_made w _ _ _, fun s => ⟨rfl, fun v h => by cases h⟩⟩

theorem lkp_cons (k : ByteArray) (v : Int) (lm : List (ByteArray × Int)) (s : ByteArray) : lkp ((k, v) :: lm) s = if k.data.toList = s.data.toList then some v else lkp lm s := by
  unfold lkp
  rw [List.find?_cons]
  by_cases h : k.data.toList = s.data.toList
  · have e : (k.data.toList == s.data.toList) = true := beq_iff_eq.2 h
    rw [if_pos h]
    show Option.map _ (match (k.data.toList == s.data.toList) with | true => some (k, v) | false => _) = _
    rw [e]
    rfl
  · have e : (k.data.toList == s.data.toList) = false := beq_eq_false_iff_ne.2 h
    rw [if_neg h]
    show Option.map _ (match (k.data.toList == s.data.toList) with | true => some (k, v) | false => _) = _
    rw [e]
theorem lkp_drp (lm : List (ByteArray × Int)) (k s : ByteArray) : lkp (drp lm k) s = if k.data.toList = s.data.toList then none else lkp lm s := by
  induction lm with
  | nil => unfold lkp drp; simp
  | cons p r ih =>
    by_cases hp : p.1.data.toList = k.data.toList
    · have e : drp (p :: r) k = drp r k := by
        have e1 : (p.1.data.toList == k.data.toList) = true := beq_iff_eq.2 hp
        unfold drp; rw [List.filter_cons, e1]; rfl
      rw [e, ih]
      split
      · rfl
      · rename_i hne
        rw [show p = (p.1, p.2) from rfl, lkp_cons, if_neg (by rw [hp]; exact hne)]
    · have e : drp (p :: r) k = p :: drp r k := by
        have e1 : (p.1.data.toList == k.data.toList) = false := beq_eq_false_iff_ne.2 hp
        unfold drp; rw [List.filter_cons, e1]; rfl
      rw [e, show p = (p.1, p.2) from rfl, lkp_cons, ih, lkp_cons]
      by_cases h2 : p.1.data.toList = s.data.toList
      · rw [if_pos h2, if_pos h2, if_neg (by intro h3; exact hp (h2.trans h3.symm))]
      · rw [if_neg h2, if_neg h2]

theorem MapIs.put {w' : World} {bm n : Nat} {lm : List (ByteArray × Int)} {D : DataW Unit} {k : ByteArray} {v : Int} (hD : IsMap D) (hs : ∀ s : ByteArray, Maps.has D (kyS s) = (lkp lm s).isSome ∧ ∀ v, lkp lm s = some v → D.atKey (kyS s) (.lit (.int .i64 0)) = .lit (.int .i64 v))
    (ho : w'.ownsMap Tryz.prog 9 (plainElem Tryz.prog 3) bm (n + 1) (D.put (kyS k) (.lit (.int .i64 v)))) : MapIs w' bm (n + 1) ((k, v) :: lm) := by
  refine ⟨_, ho, fun s => ?_⟩
  rw [lkp_cons]
  by_cases h : k.data.toList = s.data.toList
  · rw [if_pos h, show kyS s = kyS k from congrArg Lit.string h.symm]
    exact ⟨Maps.has_put_same hD (show WideAt.IsKeyLit (kyS k) from trivial) _, fun x hx => by cases hx; exact Maps.atKey_put_same hD (show WideAt.IsKeyLit (kyS k) from trivial) _ _⟩
  · have hne : kyS s ≠ kyS k := fun e => h (by injection e with e; exact e.symm)
    rw [if_neg h, Maps.has_put_other hne]
    exact ⟨(hs s).1, fun x hx => by rw [Maps.atKey_put_other hne]; exact (hs s).2 x hx⟩
theorem MapIs.del {w' : World} {bm n : Nat} {lm : List (ByteArray × Int)} {D : DataW Unit} {k : ByteArray} (hs : ∀ s : ByteArray, Maps.has D (kyS s) = (lkp lm s).isSome ∧ ∀ v, lkp lm s = some v → D.atKey (kyS s) (.lit (.int .i64 0)) = .lit (.int .i64 v))
    (ho : w'.ownsMap Tryz.prog 9 (plainElem Tryz.prog 3) bm n (D.del (kyS k))) : MapIs w' bm n (drp lm k) := by
  refine ⟨_, ho, fun s => ?_⟩
  rw [lkp_drp]
  by_cases h : k.data.toList = s.data.toList
  · rw [if_pos h, show kyS s = kyS k from congrArg Lit.string h.symm]
    exact ⟨Maps.has_del_same, fun x hx => by cases hx⟩
  · have hne : kyS s ≠ kyS k := fun e => h (by injection e with e; exact e.symm)
    rw [if_neg h, Maps.has_del_other hne]
    exact ⟨(hs s).1, fun x hx => by rw [Maps.atKey_del_other hne]; exact (hs s).2 x hx⟩

/-- A row of one's own whose block has that colour. -/
structure RowAt (w : World) (col : Nat → Nat) (c : Nat) (t : TypeId) (a : Option Addr) (cap : Nat) (xs : List Value) : Prop where
  own : w.ownsRow 0 t 1 (.slice a xs.length cap) xs.length xs
  hue : ∀ k, (Value.slice a xs.length cap).ownBlock = some k → col k = c

theorem RowAt.keep {w w' : World} {col col' : Nat → Nat} {c : Nat} {t : TypeId} {a : Option Addr} {cap : Nat} {xs : List Value} (h : RowAt w col c t a cap xs) (hk : ∀ k, k < w.heap.size → col k = c → w'.heap[k]? = w.heap[k]?) (hc : ∀ k, k < w.heap.size → col' k = col k) : RowAt w' col' c t a cap xs := by
  refine ⟨?_, fun k e => by rw [hc k (h.own.lt k e).2]; exact h.hue k e⟩
  have hlt := h.own.lt
  have hue := h.hue
  obtain ⟨h1, h2⟩ := h.own
  refine ⟨h1, ?_⟩
  rcases h2 with h2 | ⟨g, cap2, cur, e, hb, hg, rest⟩
  · exact Or.inl h2
  · have ho : (Value.slice a xs.length cap).ownBlock = some g := by rw [e]; rfl
    exact Or.inr ⟨g, cap2, cur, e, hb, (hk g (hlt g ho).2 (hue g ho)).trans hg, rest⟩

abbrev wkO (P : Nat) (lv : Option Nat) (oa : Option Addr) (on oc : Nat) (ba : Option Addr) (bn bc : Nat) (lp lc : Int) (sa : Option Addr) (sn sc : Nat) (ca : Option Addr) (cn cc : Nat) (e : Int) : Obj :=
  .cells #[.pointer (some ⟨P, 0, none⟩), .map lv, .slice oa on oc, .slice ba bn bc, .int .i64 lp, .int .i64 lc, .slice sa sn sc, .slice ca cn cc, .int .i64 e] 115 (0, 0)
abbrev pgO (fv : Value) (M : Nat) (sp : Int) : Obj := .cells #[fv, .map (some M), .int .i64 sp] 108 (0, 0)
abbrev strs (l : List ByteArray) : List Value := l.map Value.string
abbrev nms (l : List Int) : List Value := l.map (Value.int .i64)

/-- The map of the names that are visible. -/
def MapAt (w : World) (col : Nat → Nat) (lv : Option Nat) (lm : List (ByteArray × Int)) (ct : Nat) : Prop :=
  (lv = none ∧ lm = []) ∨ ∃ bm n, lv = some bm ∧ col bm = 1 ∧ n ≤ ct ∧ MapIs w bm n lm

/-- The blocks B and P hold a walk and its program that stand so; blocks of the colour 0 are none of theirs. -/
structure WS (w : World) (B P M : Nat) (fv : Value) (col : Nat → Nat) (st : WK) : Prop where
  fresh : ∀ k, w.heap.size ≤ k → col k = 0
  cB : col B = 6
  cP : col P = 7
  ex : ∃ (lv : Option Nat) (oa ba sa ca : Option Addr) (oc bc sc cc : Nat),
    w.heap[B]? = some (wkO P lv oa st.od.length oc ba st.bk.length bc st.lp st.lc sa st.sl.length sc ca st.cl.length cc st.e) ∧
    w.heap[P]? = some (pgO fv M st.sp) ∧ MapAt w col lv st.lm st.ct ∧
    RowAt w col 2 9 oa oc (strs st.od) ∧ RowAt w col 3 3 ba bc (nms st.bk) ∧ RowAt w col 4 3 sa sc (nms st.sl) ∧ RowAt w col 5 3 ca cc (nms st.cl)

/-- Only blocks with a colour have turned; colours stay. -/
structure Wk (col col' : Nat → Nat) (w w' : World) : Prop where
  os : w'.os = w.os
  tape : w'.tape = w.tape
  output : w'.output = w.output
  size : w.heap.size ≤ w'.heap.size
  same : ∀ k, k < w.heap.size → col' k = col k
  keep : ∀ k, k < w.heap.size → col k = 0 → w'.heap[k]? = w.heap[k]?

theorem Wk.refl (col : Nat → Nat) (w : World) : Wk col col w w := ⟨rfl, rfl, rfl, Nat.le_refl _, fun _ _ => rfl, fun _ _ _ => rfl⟩
theorem Wk.trans {c1 c2 c3 : Nat → Nat} {a b c : World} (h : Wk c1 c2 a b) (k : Wk c2 c3 b c) : Wk c1 c3 a c :=
  ⟨k.os.trans h.os, k.tape.trans h.tape, k.output.trans h.output, Nat.le_trans h.size k.size, fun i hi => (k.same i (Nat.lt_of_lt_of_le hi h.size)).trans (h.same i hi), fun i hi h0 => (k.keep i (Nat.lt_of_lt_of_le hi h.size) ((h.same i hi).trans h0)).trans (h.keep i hi h0)⟩
theorem Wk.ext {col : Nat → Nat} {w w' : World} (h : Ext w w') : Wk col col w w' := ⟨h.os, h.tape, h.output, h.size, fun _ _ => rfl, fun k hk _ => h.block k hk⟩

/-- Whatever keeps the blocks that have a colour keeps it. -/
theorem WS.keep {w w' : World} {B P M : Nat} {fv : Value} {col : Nat → Nat} {st : WK} (h : WS w B P M fv col st) (hz : w.heap.size ≤ w'.heap.size) (hk : ∀ k, k < w.heap.size → col k ≠ 0 → w'.heap[k]? = w.heap[k]?) : WS w' B P M fv col st := by
  obtain ⟨lv, oa, ba, sa, ca, oc, bc, sc, cc, hB, hP, hm, h2, h3, h4, h5⟩ := h.ex
  have lB := (Array.getElem?_eq_some_iff.1 hB).1
  have lP := (Array.getElem?_eq_some_iff.1 hP).1
  refine ⟨fun k hk => h.fresh k (by omega), h.cB, h.cP, lv, oa, ba, sa, ca, oc, bc, sc, cc, (hk B lB (by rw [h.cB]; decide)).trans hB, (hk P lP (by rw [h.cP]; decide)).trans hP, ?_, h2.keep (fun k h1 h2 => hk k h1 (by omega)) (fun _ _ => rfl), h3.keep (fun k h1 h2 => hk k h1 (by omega)) (fun _ _ => rfl), h4.keep (fun k h1 h2 => hk k h1 (by omega)) (fun _ _ => rfl), h5.keep (fun k h1 h2 => hk k h1 (by omega)) (fun _ _ => rfl)⟩
  rcases hm with hm | ⟨bm, n, e, hc, hn, hm⟩
  · exact Or.inl hm
  · exact Or.inr ⟨bm, n, e, hc, hn, hm.keep (hk bm hm.lt (by rw [hc]; decide))⟩
theorem WS.ext {w w' : World} {B P M : Nat} {fv : Value} {col : Nat → Nat} {st : WK} (h : WS w B P M fv col st) (k : Ext w w') : WS w' B P M fv col st := h.keep k.le (fun i hi _ => k.block i hi)

/-- What a call of one of the walk's functions that answer nothing does. -/
def Walks (B P M : Nat) (fv : Value) (col : Nat → Nat) (w : World) (st' : WK) (e : Ending) (w' : World) : Prop :=
  e = .returned (.tuple #[]) ∧ ∃ col', WS w' B P M fv col' st' ∧ Wk col col' w w'

end Go.Proofs.YtlgdjeiendmniaaGreatDoor

namespace Go.Proofs.YtlgdjeiendmniaaGreatDoor
open Go.RowKit Go.Maps

theorem WS.setE {w : World} {B P M : Nat} {fv : Value} {col : Nat → Nat} {st : WK} (h : WS w B P M fv col st) (c : Int) : WS (w.setCell ⟨B, 8, none⟩ (.int .i64 c)) B P M fv col { st with e := c } ∧ Wk col col w (w.setCell ⟨B, 8, none⟩ (.int .i64 c)) := by
  obtain ⟨lv, oa, ba, sa, ca, oc, bc, sc, cc, hB, hP, hm, h2, h3, h4, h5⟩ := h.ex
  have hz : (w.setCell ⟨B, 8, none⟩ (.int .i64 c)).heap.size = w.heap.size := by simp [World.setCell]
  have hk : ∀ k, k ≠ B → (w.setCell ⟨B, 8, none⟩ (.int .i64 c)).heap[k]? = w.heap[k]? := fun k hk => Below.heap_setCell _ _ _ _ hk
  have hr := row_set hB 8 (.int .i64 c)
  have cB := h.cB
  have cP := h.cP
  have xo : (w.setCell ⟨B, 8, none⟩ (.int .i64 c)).os = w.os := rfl
  have xt : (w.setCell ⟨B, 8, none⟩ (.int .i64 c)).tape = w.tape := rfl
  have xu : (w.setCell ⟨B, 8, none⟩ (.int .i64 c)).output = w.output := rfl
  generalize w.setCell ⟨B, 8, none⟩ (.int .i64 c) = W at *
  have kr : ∀ i, i ≠ 6 → ∀ k, k < w.heap.size → col k = i → W.heap[k]? = w.heap[k]? := fun i hi k _ hc => hk k (fun e => by rw [e, cB] at hc; omega)
  refine ⟨⟨fun k h1 => h.fresh k (by omega), cB, cP, lv, oa, ba, sa, ca, oc, bc, sc, cc, by simpa only [List.setIfInBounds_toArray, List.set_cons_zero, List.set_cons_succ] using hr, (hk P (fun e => by rw [e, cB] at cP; omega)).trans hP, ?_, h2.keep (kr 2 (by decide)) (fun _ _ => rfl), h3.keep (kr 3 (by decide)) (fun _ _ => rfl), h4.keep (kr 4 (by decide)) (fun _ _ => rfl), h5.keep (kr 5 (by decide)) (fun _ _ => rfl)⟩, ?_⟩
  · rcases hm with hm | ⟨bm, n, e, hc, hn, hm⟩
    · exact Or.inl hm
    · exact Or.inr ⟨bm, n, e, hc, hn, hm.keep (kr 1 (by decide) bm hm.lt hc)⟩
  · exact ⟨xo, xt, xu, by omega, fun _ _ => rfl, fun k _ h0 => hk k (fun e => by rw [e, cB] at h0; omega)⟩

theorem WS.setLp {w : World} {B P M : Nat} {fv : Value} {col : Nat → Nat} {st : WK} (h : WS w B P M fv col st) (c : Int) : WS (w.setCell ⟨B, 4, none⟩ (.int .i64 c)) B P M fv col { st with lp := c } ∧ Wk col col w (w.setCell ⟨B, 4, none⟩ (.int .i64 c)) := by
  obtain ⟨lv, oa, ba, sa, ca, oc, bc, sc, cc, hB, hP, hm, h2, h3, h4, h5⟩ := h.ex
  have hz : (w.setCell ⟨B, 4, none⟩ (.int .i64 c)).heap.size = w.heap.size := by simp [World.setCell]
  have hk : ∀ k, k ≠ B → (w.setCell ⟨B, 4, none⟩ (.int .i64 c)).heap[k]? = w.heap[k]? := fun k hk => Below.heap_setCell _ _ _ _ hk
  have hr := row_set hB 4 (.int .i64 c)
  have cB := h.cB
  have cP := h.cP
  have xo : (w.setCell ⟨B, 4, none⟩ (.int .i64 c)).os = w.os := rfl
  have xt : (w.setCell ⟨B, 4, none⟩ (.int .i64 c)).tape = w.tape := rfl
  have xu : (w.setCell ⟨B, 4, none⟩ (.int .i64 c)).output = w.output := rfl
  generalize w.setCell ⟨B, 4, none⟩ (.int .i64 c) = W at *
  have kr : ∀ i, i ≠ 6 → ∀ k, k < w.heap.size → col k = i → W.heap[k]? = w.heap[k]? := fun i hi k _ hc => hk k (fun e => by rw [e, cB] at hc; omega)
  refine ⟨⟨fun k h1 => h.fresh k (by omega), cB, cP, lv, oa, ba, sa, ca, oc, bc, sc, cc, by simpa only [List.setIfInBounds_toArray, List.set_cons_zero, List.set_cons_succ] using hr, (hk P (fun e => by rw [e, cB] at cP; omega)).trans hP, ?_, h2.keep (kr 2 (by decide)) (fun _ _ => rfl), h3.keep (kr 3 (by decide)) (fun _ _ => rfl), h4.keep (kr 4 (by decide)) (fun _ _ => rfl), h5.keep (kr 5 (by decide)) (fun _ _ => rfl)⟩, ?_⟩
  · rcases hm with hm | ⟨bm, n, e, hc, hn, hm⟩
    · exact Or.inl hm
    · exact Or.inr ⟨bm, n, e, hc, hn, hm.keep (kr 1 (by decide) bm hm.lt hc)⟩
  · exact ⟨xo, xt, xu, by omega, fun _ _ => rfl, fun k _ h0 => hk k (fun e => by rw [e, cB] at h0; omega)⟩

theorem WS.setLc {w : World} {B P M : Nat} {fv : Value} {col : Nat → Nat} {st : WK} (h : WS w B P M fv col st) (c : Int) : WS (w.setCell ⟨B, 5, none⟩ (.int .i64 c)) B P M fv col { st with lc := c } ∧ Wk col col w (w.setCell ⟨B, 5, none⟩ (.int .i64 c)) := by
  obtain ⟨lv, oa, ba, sa, ca, oc, bc, sc, cc, hB, hP, hm, h2, h3, h4, h5⟩ := h.ex
  have hz : (w.setCell ⟨B, 5, none⟩ (.int .i64 c)).heap.size = w.heap.size := by simp [World.setCell]
  have hk : ∀ k, k ≠ B → (w.setCell ⟨B, 5, none⟩ (.int .i64 c)).heap[k]? = w.heap[k]? := fun k hk => Below.heap_setCell _ _ _ _ hk
  have hr := row_set hB 5 (.int .i64 c)
  have cB := h.cB
  have cP := h.cP
  have xo : (w.setCell ⟨B, 5, none⟩ (.int .i64 c)).os = w.os := rfl
  have xt : (w.setCell ⟨B, 5, none⟩ (.int .i64 c)).tape = w.tape := rfl
  have xu : (w.setCell ⟨B, 5, none⟩ (.int .i64 c)).output = w.output := rfl
  generalize w.setCell ⟨B, 5, none⟩ (.int .i64 c) = W at *
  have kr : ∀ i, i ≠ 6 → ∀ k, k < w.heap.size → col k = i → W.heap[k]? = w.heap[k]? := fun i hi k _ hc => hk k (fun e => by rw [e, cB] at hc; omega)
  refine ⟨⟨fun k h1 => h.fresh k (by omega), cB, cP, lv, oa, ba, sa, ca, oc, bc, sc, cc, by simpa only [List.setIfInBounds_toArray, List.set_cons_zero, List.set_cons_succ] using hr, (hk P (fun e => by rw [e, cB] at cP; omega)).trans hP, ?_, h2.keep (kr 2 (by decide)) (fun _ _ => rfl), h3.keep (kr 3 (by decide)) (fun _ _ => rfl), h4.keep (kr 4 (by decide)) (fun _ _ => rfl), h5.keep (kr 5 (by decide)) (fun _ _ => rfl)⟩, ?_⟩
  · rcases hm with hm | ⟨bm, n, e, hc, hn, hm⟩
    · exact Or.inl hm
    · exact Or.inr ⟨bm, n, e, hc, hn, hm.keep (kr 1 (by decide) bm hm.lt hc)⟩
  · exact ⟨xo, xt, xu, by omega, fun _ _ => rfl, fun k _ h0 => hk k (fun e => by rw [e, cB] at h0; omega)⟩

theorem WS.setSp {w : World} {B P M : Nat} {fv : Value} {col : Nat → Nat} {st : WK} (h : WS w B P M fv col st) (c : Int) : WS (w.setCell ⟨P, 2, none⟩ (.int .i64 c)) B P M fv col { st with sp := c } ∧ Wk col col w (w.setCell ⟨P, 2, none⟩ (.int .i64 c)) := by
  obtain ⟨lv, oa, ba, sa, ca, oc, bc, sc, cc, hB, hP, hm, h2, h3, h4, h5⟩ := h.ex
  have hz : (w.setCell ⟨P, 2, none⟩ (.int .i64 c)).heap.size = w.heap.size := by simp [World.setCell]
  have hk : ∀ k, k ≠ P → (w.setCell ⟨P, 2, none⟩ (.int .i64 c)).heap[k]? = w.heap[k]? := fun k hk => Below.heap_setCell _ _ _ _ hk
  have hr := row_set hP 2 (.int .i64 c)
  have cB := h.cB
  have cP := h.cP
  have xo : (w.setCell ⟨P, 2, none⟩ (.int .i64 c)).os = w.os := rfl
  have xt : (w.setCell ⟨P, 2, none⟩ (.int .i64 c)).tape = w.tape := rfl
  have xu : (w.setCell ⟨P, 2, none⟩ (.int .i64 c)).output = w.output := rfl
  generalize w.setCell ⟨P, 2, none⟩ (.int .i64 c) = W at *
  have kr : ∀ i, i ≠ 7 → ∀ k, k < w.heap.size → col k = i → W.heap[k]? = w.heap[k]? := fun i hi k _ hc => hk k (fun e => by rw [e, cP] at hc; omega)
  refine ⟨⟨fun k h1 => h.fresh k (by omega), cB, cP, lv, oa, ba, sa, ca, oc, bc, sc, cc, (hk B (fun e => by rw [e, cP] at cB; omega)).trans hB, by simpa only [List.setIfInBounds_toArray, List.set_cons_zero, List.set_cons_succ] using hr, ?_, h2.keep (kr 2 (by decide)) (fun _ _ => rfl), h3.keep (kr 3 (by decide)) (fun _ _ => rfl), h4.keep (kr 4 (by decide)) (fun _ _ => rfl), h5.keep (kr 5 (by decide)) (fun _ _ => rfl)⟩, ?_⟩
  · rcases hm with hm | ⟨bm, n, e, hc, hn, hm⟩
    · exact Or.inl hm
    · exact Or.inr ⟨bm, n, e, hc, hn, hm.keep (kr 1 (by decide) bm hm.lt hc)⟩
  · exact ⟨xo, xt, xu, by omega, fun _ _ => rfl, fun k _ h0 => hk k (fun e => by rw [e, cP] at h0; omega)⟩

/-- The colours when the block g' has got that one. -/
def hued (col : Nat → Nat) (g' c : Nat) : Nat → Nat := fun k => if k = g' then c else col k

/-- A row that was appended to. -/
theorem RowAt.append {w w6 : World} {col : Nat → Nat} {c : Nat} {t : TypeId} {a : Option Addr} {cap : Nat} {xs : List Value} (h : RowAt w col c t a cap xs) (hf : ∀ k, w.heap.size ≤ k → col k = 0) (ob : Obj) {g' cap' : Nat} {u : Value}
    (ho : w6.ownsRow 0 t 1 (.slice (some ⟨g', 0, none⟩) (xs.length + 1) cap') (xs.length + 1) (xs ++ [u])) (hgw : (w.alloc ob).grownBy w6 (Value.slice a xs.length cap).ownBlock) (hw : (Value.slice a xs.length cap).ownBlock = some g' ∨ (w.alloc ob).heap.size ≤ g') :
    RowAt w6 (hued col g' c) c t (some ⟨g', 0, none⟩) cap' (xs ++ [u]) ∧ (∀ k, k < w.heap.size → hued col g' c k = col k) ∧ (∀ k, k < w.heap.size → col k ≠ c → w6.heap[k]? = w.heap[k]?) ∧ (∀ k, w6.heap.size ≤ k → hued col g' c k = 0) ∧ w.heap.size ≤ w6.heap.size := by
  have hz : (w.alloc ob).heap.size = w.heap.size + 1 := size_alloc _ _
  have hlt := (ho.lt g' rfl).2
  have hgs := hgw.size
  refine ⟨⟨by rw [List.length_append]; exact ho, fun k e => ?_⟩, fun k hk => ?_, fun k hk hc => ?_, fun k hk => ?_, by omega⟩
  · simp only [Value.ownBlock, Option.some.injEq] at e
    subst e
    unfold hued
    rw [if_pos rfl]
  · unfold hued
    split
    · rename_i e
      subst e
      rcases hw with e | e
      · exact (h.hue k e).symm
      · omega
    · rfl
  · refine (hgw.block k (by omega) (fun e => ?_)).trans ((Ext.alloc w ob).block k hk)
    exact hc (h.hue k e.symm)
  · unfold hued
    rw [if_neg (by omega)]
    exact hf k (by omega)

theorem WS.addOd {w w6 : World} {B P M : Nat} {fv : Value} {col : Nat → Nat} {st : WK} (h : WS w B P M fv col st) {lv : Option Nat} {oa ba sa ca : Option Addr} {oc bc sc cc : Nat} (hB : w.heap[B]? = some (wkO P lv oa st.od.length oc ba st.bk.length bc st.lp st.lc sa st.sl.length sc ca st.cl.length cc st.e)) (hP : w.heap[P]? = some (pgO fv M st.sp)) (hm : MapAt w col lv st.lm st.ct)
    (h2 : RowAt w col 2 9 oa oc (strs st.od)) (h3 : RowAt w col 3 3 ba bc (nms st.bk)) (h4 : RowAt w col 4 3 sa sc (nms st.sl)) (h5 : RowAt w col 5 3 ca cc (nms st.cl)) (ob : Obj) {g' cap' : Nat} {x : ByteArray}
    (ho : w6.ownsRow 0 9 1 (.slice (some ⟨g', 0, none⟩) (st.od.length + 1) cap') (st.od.length + 1) (strs st.od ++ [.string x])) (hgw : (w.alloc ob).grownBy w6 (Value.slice oa st.od.length oc).ownBlock) (hw : (Value.slice oa st.od.length oc).ownBlock = some g' ∨ (w.alloc ob).heap.size ≤ g') :
    WS (w6.setCell ⟨B, 2, none⟩ (.slice (some ⟨g', 0, none⟩) (st.od.length + 1) cap')) B P M fv (hued col g' 2) { st with od := st.od ++ [x] } ∧ Wk col (hued col g' 2) w (w6.setCell ⟨B, 2, none⟩ (.slice (some ⟨g', 0, none⟩) (st.od.length + 1) cap')) := by
  have e0 : (strs st.od).length = st.od.length := List.length_map _
  obtain ⟨r0, r1, r2, r3, r4⟩ := h2.append h.fresh ob (g' := g') (cap' := cap') (u := .string x) (by rw [e0]; exact ho) (by rw [e0]; exact hgw) (by rw [e0]; exact hw)
  have lB := (Array.getElem?_eq_some_iff.1 hB).1
  have lP := (Array.getElem?_eq_some_iff.1 hP).1
  have cB := h.cB
  have cP := h.cP
  have cB6 : hued col g' 2 B = 6 := (r1 B lB).trans cB
  have cP7 : hued col g' 2 P = 7 := (r1 P lP).trans cP
  have hz : (w6.setCell ⟨B, 2, none⟩ (.slice (some ⟨g', 0, none⟩) (st.od.length + 1) cap')).heap.size = w6.heap.size := by simp [World.setCell]
  have hk : ∀ k, k ≠ B → (w6.setCell ⟨B, 2, none⟩ (.slice (some ⟨g', 0, none⟩) (st.od.length + 1) cap')).heap[k]? = w6.heap[k]? := fun k hk => Below.heap_setCell _ _ _ _ hk
  have hr := row_set (w := w6) ((r2 B lB (by omega)).trans hB) 2 (.slice (some ⟨g', 0, none⟩) (st.od.length + 1) cap')
  have xo : (w6.setCell ⟨B, 2, none⟩ (.slice (some ⟨g', 0, none⟩) (st.od.length + 1) cap')).os = w.os := hgw.os
  have xt : (w6.setCell ⟨B, 2, none⟩ (.slice (some ⟨g', 0, none⟩) (st.od.length + 1) cap')).tape = w.tape := hgw.tape
  have xu : (w6.setCell ⟨B, 2, none⟩ (.slice (some ⟨g', 0, none⟩) (st.od.length + 1) cap')).output = w.output := hgw.output
  generalize w6.setCell ⟨B, 2, none⟩ (.slice (some ⟨g', 0, none⟩) (st.od.length + 1) cap') = W at *
  have hln : (st.od ++ [x]).length = st.od.length + 1 := by simp
  refine ⟨⟨fun k h1 => r3 k (by omega), cB6, cP7, lv, (some ⟨g', 0, none⟩), ba, sa, ca, cap', bc, sc, cc, by show W.heap[B]? = some (wkO P lv (some ⟨g', 0, none⟩) (st.od ++ [x]).length cap' ba st.bk.length bc st.lp st.lc sa st.sl.length sc ca st.cl.length cc st.e); rw [hln]; simpa only [List.setIfInBounds_toArray, List.set_cons_zero, List.set_cons_succ] using hr, (hk P (fun e => by rw [e, cB] at cP; omega)).trans ((r2 P lP (by omega)).trans hP), ?_, (show RowAt W (hued col g' 2) 2 9 (some ⟨g', 0, none⟩) cap' (strs (st.od ++ [x])) from by rw [show strs (st.od ++ [x]) = strs st.od ++ [.string x] from List.map_append]; exact r0.keep (fun k _ hc => hk k (fun e => by rw [e, cB6] at hc; omega)) (fun _ _ => rfl)), h3.keep (fun k h1 hc => (hk k (fun e => by rw [e, cB] at hc; omega)).trans (r2 k h1 (by omega))) r1, h4.keep (fun k h1 hc => (hk k (fun e => by rw [e, cB] at hc; omega)).trans (r2 k h1 (by omega))) r1, h5.keep (fun k h1 hc => (hk k (fun e => by rw [e, cB] at hc; omega)).trans (r2 k h1 (by omega))) r1⟩, ?_⟩
  · rcases hm with hm | ⟨bm, n, e, hc, hn, hm⟩
    · exact Or.inl hm
    · exact Or.inr ⟨bm, n, e, (r1 bm hm.lt).trans hc, hn, hm.keep ((hk bm (fun e => by rw [e, cB] at hc; omega)).trans (r2 bm hm.lt (by omega)))⟩
  · exact ⟨xo, xt, xu, by omega, r1, fun k h1 h0 => (hk k (fun e => by rw [e, cB] at h0; omega)).trans (r2 k h1 (by omega))⟩

theorem WS.addBk {w w6 : World} {B P M : Nat} {fv : Value} {col : Nat → Nat} {st : WK} (h : WS w B P M fv col st) {lv : Option Nat} {oa ba sa ca : Option Addr} {oc bc sc cc : Nat} (hB : w.heap[B]? = some (wkO P lv oa st.od.length oc ba st.bk.length bc st.lp st.lc sa st.sl.length sc ca st.cl.length cc st.e)) (hP : w.heap[P]? = some (pgO fv M st.sp)) (hm : MapAt w col lv st.lm st.ct)
    (h2 : RowAt w col 2 9 oa oc (strs st.od)) (h3 : RowAt w col 3 3 ba bc (nms st.bk)) (h4 : RowAt w col 4 3 sa sc (nms st.sl)) (h5 : RowAt w col 5 3 ca cc (nms st.cl)) (ob : Obj) {g' cap' : Nat} {x : Int}
    (ho : w6.ownsRow 0 3 1 (.slice (some ⟨g', 0, none⟩) (st.bk.length + 1) cap') (st.bk.length + 1) (nms st.bk ++ [.int .i64 x])) (hgw : (w.alloc ob).grownBy w6 (Value.slice ba st.bk.length bc).ownBlock) (hw : (Value.slice ba st.bk.length bc).ownBlock = some g' ∨ (w.alloc ob).heap.size ≤ g') :
    WS (w6.setCell ⟨B, 3, none⟩ (.slice (some ⟨g', 0, none⟩) (st.bk.length + 1) cap')) B P M fv (hued col g' 3) { st with bk := st.bk ++ [x] } ∧ Wk col (hued col g' 3) w (w6.setCell ⟨B, 3, none⟩ (.slice (some ⟨g', 0, none⟩) (st.bk.length + 1) cap')) := by
  have e0 : (nms st.bk).length = st.bk.length := List.length_map _
  obtain ⟨r0, r1, r2, r3, r4⟩ := h3.append h.fresh ob (g' := g') (cap' := cap') (u := .int .i64 x) (by rw [e0]; exact ho) (by rw [e0]; exact hgw) (by rw [e0]; exact hw)
  have lB := (Array.getElem?_eq_some_iff.1 hB).1
  have lP := (Array.getElem?_eq_some_iff.1 hP).1
  have cB := h.cB
  have cP := h.cP
  have cB6 : hued col g' 3 B = 6 := (r1 B lB).trans cB
  have cP7 : hued col g' 3 P = 7 := (r1 P lP).trans cP
  have hz : (w6.setCell ⟨B, 3, none⟩ (.slice (some ⟨g', 0, none⟩) (st.bk.length + 1) cap')).heap.size = w6.heap.size := by simp [World.setCell]
  have hk : ∀ k, k ≠ B → (w6.setCell ⟨B, 3, none⟩ (.slice (some ⟨g', 0, none⟩) (st.bk.length + 1) cap')).heap[k]? = w6.heap[k]? := fun k hk => Below.heap_setCell _ _ _ _ hk
  have hr := row_set (w := w6) ((r2 B lB (by omega)).trans hB) 3 (.slice (some ⟨g', 0, none⟩) (st.bk.length + 1) cap')
  have xo : (w6.setCell ⟨B, 3, none⟩ (.slice (some ⟨g', 0, none⟩) (st.bk.length + 1) cap')).os = w.os := hgw.os
  have xt : (w6.setCell ⟨B, 3, none⟩ (.slice (some ⟨g', 0, none⟩) (st.bk.length + 1) cap')).tape = w.tape := hgw.tape
  have xu : (w6.setCell ⟨B, 3, none⟩ (.slice (some ⟨g', 0, none⟩) (st.bk.length + 1) cap')).output = w.output := hgw.output
  generalize w6.setCell ⟨B, 3, none⟩ (.slice (some ⟨g', 0, none⟩) (st.bk.length + 1) cap') = W at *
  have hln : (st.bk ++ [x]).length = st.bk.length + 1 := by simp
  refine ⟨⟨fun k h1 => r3 k (by omega), cB6, cP7, lv, oa, (some ⟨g', 0, none⟩), sa, ca, oc, cap', sc, cc, by show W.heap[B]? = some (wkO P lv oa st.od.length oc (some ⟨g', 0, none⟩) (st.bk ++ [x]).length cap' st.lp st.lc sa st.sl.length sc ca st.cl.length cc st.e); rw [hln]; simpa only [List.setIfInBounds_toArray, List.set_cons_zero, List.set_cons_succ] using hr, (hk P (fun e => by rw [e, cB] at cP; omega)).trans ((r2 P lP (by omega)).trans hP), ?_, h2.keep (fun k h1 hc => (hk k (fun e => by rw [e, cB] at hc; omega)).trans (r2 k h1 (by omega))) r1, (show RowAt W (hued col g' 3) 3 3 (some ⟨g', 0, none⟩) cap' (nms (st.bk ++ [x])) from by rw [show nms (st.bk ++ [x]) = nms st.bk ++ [.int .i64 x] from List.map_append]; exact r0.keep (fun k _ hc => hk k (fun e => by rw [e, cB6] at hc; omega)) (fun _ _ => rfl)), h4.keep (fun k h1 hc => (hk k (fun e => by rw [e, cB] at hc; omega)).trans (r2 k h1 (by omega))) r1, h5.keep (fun k h1 hc => (hk k (fun e => by rw [e, cB] at hc; omega)).trans (r2 k h1 (by omega))) r1⟩, ?_⟩
  · rcases hm with hm | ⟨bm, n, e, hc, hn, hm⟩
    · exact Or.inl hm
    · exact Or.inr ⟨bm, n, e, (r1 bm hm.lt).trans hc, hn, hm.keep ((hk bm (fun e => by rw [e, cB] at hc; omega)).trans (r2 bm hm.lt (by omega)))⟩
  · exact ⟨xo, xt, xu, by omega, r1, fun k h1 h0 => (hk k (fun e => by rw [e, cB] at h0; omega)).trans (r2 k h1 (by omega))⟩

theorem WS.addSl {w w6 : World} {B P M : Nat} {fv : Value} {col : Nat → Nat} {st : WK} (h : WS w B P M fv col st) {lv : Option Nat} {oa ba sa ca : Option Addr} {oc bc sc cc : Nat} (hB : w.heap[B]? = some (wkO P lv oa st.od.length oc ba st.bk.length bc st.lp st.lc sa st.sl.length sc ca st.cl.length cc st.e)) (hP : w.heap[P]? = some (pgO fv M st.sp)) (hm : MapAt w col lv st.lm st.ct)
    (h2 : RowAt w col 2 9 oa oc (strs st.od)) (h3 : RowAt w col 3 3 ba bc (nms st.bk)) (h4 : RowAt w col 4 3 sa sc (nms st.sl)) (h5 : RowAt w col 5 3 ca cc (nms st.cl)) (ob : Obj) {g' cap' : Nat} {x : Int}
    (ho : w6.ownsRow 0 3 1 (.slice (some ⟨g', 0, none⟩) (st.sl.length + 1) cap') (st.sl.length + 1) (nms st.sl ++ [.int .i64 x])) (hgw : (w.alloc ob).grownBy w6 (Value.slice sa st.sl.length sc).ownBlock) (hw : (Value.slice sa st.sl.length sc).ownBlock = some g' ∨ (w.alloc ob).heap.size ≤ g') :
    WS (w6.setCell ⟨B, 6, none⟩ (.slice (some ⟨g', 0, none⟩) (st.sl.length + 1) cap')) B P M fv (hued col g' 4) { st with sl := st.sl ++ [x] } ∧ Wk col (hued col g' 4) w (w6.setCell ⟨B, 6, none⟩ (.slice (some ⟨g', 0, none⟩) (st.sl.length + 1) cap')) := by
  have e0 : (nms st.sl).length = st.sl.length := List.length_map _
  obtain ⟨r0, r1, r2, r3, r4⟩ := h4.append h.fresh ob (g' := g') (cap' := cap') (u := .int .i64 x) (by rw [e0]; exact ho) (by rw [e0]; exact hgw) (by rw [e0]; exact hw)
  have lB := (Array.getElem?_eq_some_iff.1 hB).1
  have lP := (Array.getElem?_eq_some_iff.1 hP).1
  have cB := h.cB
  have cP := h.cP
  have cB6 : hued col g' 4 B = 6 := (r1 B lB).trans cB
  have cP7 : hued col g' 4 P = 7 := (r1 P lP).trans cP
  have hz : (w6.setCell ⟨B, 6, none⟩ (.slice (some ⟨g', 0, none⟩) (st.sl.length + 1) cap')).heap.size = w6.heap.size := by simp [World.setCell]
  have hk : ∀ k, k ≠ B → (w6.setCell ⟨B, 6, none⟩ (.slice (some ⟨g', 0, none⟩) (st.sl.length + 1) cap')).heap[k]? = w6.heap[k]? := fun k hk => Below.heap_setCell _ _ _ _ hk
  have hr := row_set (w := w6) ((r2 B lB (by omega)).trans hB) 6 (.slice (some ⟨g', 0, none⟩) (st.sl.length + 1) cap')
  have xo : (w6.setCell ⟨B, 6, none⟩ (.slice (some ⟨g', 0, none⟩) (st.sl.length + 1) cap')).os = w.os := hgw.os
  have xt : (w6.setCell ⟨B, 6, none⟩ (.slice (some ⟨g', 0, none⟩) (st.sl.length + 1) cap')).tape = w.tape := hgw.tape
  have xu : (w6.setCell ⟨B, 6, none⟩ (.slice (some ⟨g', 0, none⟩) (st.sl.length + 1) cap')).output = w.output := hgw.output
  generalize w6.setCell ⟨B, 6, none⟩ (.slice (some ⟨g', 0, none⟩) (st.sl.length + 1) cap') = W at *
  have hln : (st.sl ++ [x]).length = st.sl.length + 1 := by simp
  refine ⟨⟨fun k h1 => r3 k (by omega), cB6, cP7, lv, oa, ba, (some ⟨g', 0, none⟩), ca, oc, bc, cap', cc, by show W.heap[B]? = some (wkO P lv oa st.od.length oc ba st.bk.length bc st.lp st.lc (some ⟨g', 0, none⟩) (st.sl ++ [x]).length cap' ca st.cl.length cc st.e); rw [hln]; simpa only [List.setIfInBounds_toArray, List.set_cons_zero, List.set_cons_succ] using hr, (hk P (fun e => by rw [e, cB] at cP; omega)).trans ((r2 P lP (by omega)).trans hP), ?_, h2.keep (fun k h1 hc => (hk k (fun e => by rw [e, cB] at hc; omega)).trans (r2 k h1 (by omega))) r1, h3.keep (fun k h1 hc => (hk k (fun e => by rw [e, cB] at hc; omega)).trans (r2 k h1 (by omega))) r1, (show RowAt W (hued col g' 4) 4 3 (some ⟨g', 0, none⟩) cap' (nms (st.sl ++ [x])) from by rw [show nms (st.sl ++ [x]) = nms st.sl ++ [.int .i64 x] from List.map_append]; exact r0.keep (fun k _ hc => hk k (fun e => by rw [e, cB6] at hc; omega)) (fun _ _ => rfl)), h5.keep (fun k h1 hc => (hk k (fun e => by rw [e, cB] at hc; omega)).trans (r2 k h1 (by omega))) r1⟩, ?_⟩
  · rcases hm with hm | ⟨bm, n, e, hc, hn, hm⟩
    · exact Or.inl hm
    · exact Or.inr ⟨bm, n, e, (r1 bm hm.lt).trans hc, hn, hm.keep ((hk bm (fun e => by rw [e, cB] at hc; omega)).trans (r2 bm hm.lt (by omega)))⟩
  · exact ⟨xo, xt, xu, by omega, r1, fun k h1 h0 => (hk k (fun e => by rw [e, cB] at h0; omega)).trans (r2 k h1 (by omega))⟩

theorem WS.addCl {w w6 : World} {B P M : Nat} {fv : Value} {col : Nat → Nat} {st : WK} (h : WS w B P M fv col st) {lv : Option Nat} {oa ba sa ca : Option Addr} {oc bc sc cc : Nat} (hB : w.heap[B]? = some (wkO P lv oa st.od.length oc ba st.bk.length bc st.lp st.lc sa st.sl.length sc ca st.cl.length cc st.e)) (hP : w.heap[P]? = some (pgO fv M st.sp)) (hm : MapAt w col lv st.lm st.ct)
    (h2 : RowAt w col 2 9 oa oc (strs st.od)) (h3 : RowAt w col 3 3 ba bc (nms st.bk)) (h4 : RowAt w col 4 3 sa sc (nms st.sl)) (h5 : RowAt w col 5 3 ca cc (nms st.cl)) (ob : Obj) {g' cap' : Nat} {x : Int}
    (ho : w6.ownsRow 0 3 1 (.slice (some ⟨g', 0, none⟩) (st.cl.length + 1) cap') (st.cl.length + 1) (nms st.cl ++ [.int .i64 x])) (hgw : (w.alloc ob).grownBy w6 (Value.slice ca st.cl.length cc).ownBlock) (hw : (Value.slice ca st.cl.length cc).ownBlock = some g' ∨ (w.alloc ob).heap.size ≤ g') :
    WS (w6.setCell ⟨B, 7, none⟩ (.slice (some ⟨g', 0, none⟩) (st.cl.length + 1) cap')) B P M fv (hued col g' 5) { st with cl := st.cl ++ [x] } ∧ Wk col (hued col g' 5) w (w6.setCell ⟨B, 7, none⟩ (.slice (some ⟨g', 0, none⟩) (st.cl.length + 1) cap')) := by
  have e0 : (nms st.cl).length = st.cl.length := List.length_map _
  obtain ⟨r0, r1, r2, r3, r4⟩ := h5.append h.fresh ob (g' := g') (cap' := cap') (u := .int .i64 x) (by rw [e0]; exact ho) (by rw [e0]; exact hgw) (by rw [e0]; exact hw)
  have lB := (Array.getElem?_eq_some_iff.1 hB).1
  have lP := (Array.getElem?_eq_some_iff.1 hP).1
  have cB := h.cB
  have cP := h.cP
  have cB6 : hued col g' 5 B = 6 := (r1 B lB).trans cB
  have cP7 : hued col g' 5 P = 7 := (r1 P lP).trans cP
  have hz : (w6.setCell ⟨B, 7, none⟩ (.slice (some ⟨g', 0, none⟩) (st.cl.length + 1) cap')).heap.size = w6.heap.size := by simp [World.setCell]
  have hk : ∀ k, k ≠ B → (w6.setCell ⟨B, 7, none⟩ (.slice (some ⟨g', 0, none⟩) (st.cl.length + 1) cap')).heap[k]? = w6.heap[k]? := fun k hk => Below.heap_setCell _ _ _ _ hk
  have hr := row_set (w := w6) ((r2 B lB (by omega)).trans hB) 7 (.slice (some ⟨g', 0, none⟩) (st.cl.length + 1) cap')
  have xo : (w6.setCell ⟨B, 7, none⟩ (.slice (some ⟨g', 0, none⟩) (st.cl.length + 1) cap')).os = w.os := hgw.os
  have xt : (w6.setCell ⟨B, 7, none⟩ (.slice (some ⟨g', 0, none⟩) (st.cl.length + 1) cap')).tape = w.tape := hgw.tape
  have xu : (w6.setCell ⟨B, 7, none⟩ (.slice (some ⟨g', 0, none⟩) (st.cl.length + 1) cap')).output = w.output := hgw.output
  generalize w6.setCell ⟨B, 7, none⟩ (.slice (some ⟨g', 0, none⟩) (st.cl.length + 1) cap') = W at *
  have hln : (st.cl ++ [x]).length = st.cl.length + 1 := by simp
  refine ⟨⟨fun k h1 => r3 k (by omega), cB6, cP7, lv, oa, ba, sa, (some ⟨g', 0, none⟩), oc, bc, sc, cap', by show W.heap[B]? = some (wkO P lv oa st.od.length oc ba st.bk.length bc st.lp st.lc sa st.sl.length sc (some ⟨g', 0, none⟩) (st.cl ++ [x]).length cap' st.e); rw [hln]; simpa only [List.setIfInBounds_toArray, List.set_cons_zero, List.set_cons_succ] using hr, (hk P (fun e => by rw [e, cB] at cP; omega)).trans ((r2 P lP (by omega)).trans hP), ?_, h2.keep (fun k h1 hc => (hk k (fun e => by rw [e, cB] at hc; omega)).trans (r2 k h1 (by omega))) r1, h3.keep (fun k h1 hc => (hk k (fun e => by rw [e, cB] at hc; omega)).trans (r2 k h1 (by omega))) r1, h4.keep (fun k h1 hc => (hk k (fun e => by rw [e, cB] at hc; omega)).trans (r2 k h1 (by omega))) r1, (show RowAt W (hued col g' 5) 5 3 (some ⟨g', 0, none⟩) cap' (nms (st.cl ++ [x])) from by rw [show nms (st.cl ++ [x]) = nms st.cl ++ [.int .i64 x] from List.map_append]; exact r0.keep (fun k _ hc => hk k (fun e => by rw [e, cB6] at hc; omega)) (fun _ _ => rfl))⟩, ?_⟩
  · rcases hm with hm | ⟨bm, n, e, hc, hn, hm⟩
    · exact Or.inl hm
    · exact Or.inr ⟨bm, n, e, (r1 bm hm.lt).trans hc, hn, hm.keep ((hk bm (fun e => by rw [e, cB] at hc; omega)).trans (r2 bm hm.lt (by omega)))⟩
  · exact ⟨xo, xt, xu, by omega, r1, fun k h1 h0 => (hk k (fun e => by rw [e, cB] at h0; omega)).trans (r2 k h1 (by omega))⟩

end Go.Proofs.YtlgdjeiendmniaaGreatDoor
