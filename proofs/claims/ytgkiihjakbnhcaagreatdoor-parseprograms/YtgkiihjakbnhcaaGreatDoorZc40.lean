/- A reader at a text's begin; too many functions or parameters; all functions of a text. · An expression's text: what parse.Expr answers at any text. · An expression's text: what parse.Expr answers at any text. · The writer of parse: what it holds; fail, told, enter. -/
import Derived.Test.YtgkiihjakbnhcaaGreatDoorZc34
set_option linter.unusedSimpArgs false
set_option linter.unusedVariables false
set_option maxRecDepth 10000

namespace Go.Proofs.YtgkiihjakbnhcaaGreatDoor
open Go.RowKit

theorem lexF_len : ∀ (f : Nat) (s : ByteArray) (o : Nat), (lexF f s o).1.length ≤ f
  | 0, s, o => by simp [lexF]
  | f + 1, s, o => by
    rw [lexF]
    split
    · simp
    · split
      · simp
      · have := lexF_len f s
        simp only [List.length_cons]
        rename_i m _
        have h := this m
        omega

/-- Where a reader stands at a text's begin. -/
def begP (s : ByteArray) : PS := if 4000 < s.size then ⟨[], 0, 0, 2⟩ else match (lexF (s.size + 1) s 0).2 with
  | some b => ⟨[], 0, (b : Nat), 10⟩
  | none => ⟨(lexF (s.size + 1) s 0).1, 0, 0, 0⟩
theorem begP_len (s : ByteArray) : (begP s).ts.length < 4002 := by
  unfold begP
  split
  · simp
  · have := lexF_len (s.size + 1) s 0
    split
    · simp
    · show (lexF (s.size + 1) s 0).1.length < 4002
      omega

theorem begP_long {s : ByteArray} (h : 4000 < s.size) : begP s = ⟨[], 0, 0, 2⟩ := by unfold begP; rw [if_pos h]
theorem begP_bad {s : ByteArray} (h : s.size ≤ 4000) {b : Nat} (hb : (lexF (s.size + 1) s 0).2 = some b) : begP s = ⟨[], 0, (b : Nat), 10⟩ := by unfold begP; rw [if_neg (by omega), hb]
theorem begP_good {s : ByteArray} (h : s.size ≤ 4000) (hb : (lexF (s.size + 1) s 0).2 = none) : begP s = ⟨(lexF (s.size + 1) s 0).1, 0, 0, 0⟩ := by unfold begP; rw [if_neg (by omega), hb]

theorem Sl.own {w1 : World} {base g : Nat} {v : Value} {ts : List Tk} (hown : w1.ownsRow base 79 4 v ts.length (ts.flatMap tkC)) (hg : w1.heap.size ≤ g) (ob : Obj) : Sl (w1.alloc ob) g v ts := by
  obtain ⟨hlen, ⟨e, h0⟩ | ⟨b, cap, cur, rfl, hb, hrow, hc, hcm, _⟩⟩ := id hown
  · have : ts = [] := List.length_eq_zero_iff.1 h0
    subst this
    rw [e]
    exact slNil _ _
  · refine ⟨_, cap, rfl, hc, by unfold maxLen at hcm; omega, Or.inr ⟨b, 0, rfl, Nat.lt_of_lt_of_le (Array.getElem?_eq_some_iff.1 hrow).1 hg, fun j u hu => (Ext.alloc w1 ob).cell (cells_own hown j u hu)⟩⟩

theorem toks_beg (s : ByteArray) (w : World) (he : Er w) (hmax : s.size ≤ 140737488355328) :
    Calls Tryz.prog 16 #[.string s] w fun e w' => ∃ a n cap, e = .returned (.tuple #[.slice a n cap, .int .i64 (begP s).pl, .int .i64 (begP s).e]) ∧ (begP s).op = 0 ∧ (∀ ob, Sl (w'.alloc ob) w'.heap.size (.slice a n cap) (begP s).ts) ∧ Ext w w' := by
  refine (tokens_any s w he hmax).mono ?_
  rintro e w1 (⟨hlong, rfl, hx⟩ | ⟨hlong, b, hb, rfl, hx⟩ | ⟨hlong, hb, v, rfl, hown, hx⟩)
  · rw [begP_long hlong]
    exact ⟨none, 0, 0, rfl, rfl, fun _ => slNil _ _, hx⟩
  · rw [begP_bad hlong hb]
    exact ⟨none, 0, 0, rfl, rfl, fun _ => slNil _ _, hx⟩
  · rw [begP_good hlong hb]
    have hs := fun ob => Sl.own hown (Nat.le_refl _) ob
    obtain ⟨hlen, ⟨e, h0⟩ | ⟨b, cap, cur, e, _⟩⟩ := id hown
    · subst e
      exact ⟨none, 0, 0, rfl, rfl, hs, hx⟩
    · subst e
      exact ⟨_, _, cap, rfl, rfl, hs, hx⟩

set_option maxHeartbeats 1000000 in
theorem pbegin_any (s : ByteArray) (w : World) (he : Er w) (hmax : s.size ≤ 140737488355328) :
    Calls Tryz.prog 8 #[.string s] w fun e w' => ∃ g, e = .returned (.pointer (some ⟨g, 0, none⟩)) ∧ w.heap.size ≤ g ∧ St w' g s.size (begP s) ∧ Ext w w' := by
  have HT := hide (toks_beg s w he hmax)
  generalize begP s = st at *
  obtain ⟨ts, op, pl, er⟩ := st
  go_enter Tryz.func8, Tryz.ntmps8
  go_wp2_with (go_at_call 16; refine Calls.mono (unhide HT) ?_; rintro e w1 ⟨a, n, cap, rfl, hop, hs, hx⟩; have HO := hide hop; have HS := hide hs; have X := hide hx; clear hop hs hx)
  go_ret
  have hop : op = 0 := unhide HO
  subst hop
  exact ⟨_, rfl, (unhide X).le, ⟨⟨_, Go.heap_alloc_new w1 _, unhide HS _⟩⟩, (unhide X).trans (Ext.alloc _ _)⟩

/-- Too many functions, or parameters of one. -/
def tooP (fs : List PFn) : Bool := decide (16 < fs.length) || fs.any (fun p => decide (8 < p.ps.length))

theorem RowF.at {w : World} {F : Nat → Prop} : ∀ {ps : List PFn} {xs : List Value} {j : Nat} {p : PFn}, RowF w F ps xs → ps[j]? = some p → ∃ pa pc a cap, p.ps.length ≤ pc ∧ p.bd.l.length ≤ cap ∧ RepS w F p.ps pa ∧ RepNL w F p.bd.l a ∧ ∀ i u, (fnC p pa pc a cap)[i]? = some u → xs[j * 7 + i]? = some u := by
  intro ps
  induction ps with
  | nil => intro xs j p _ h; simp at h
  | cons q ps ih =>
    intro xs j p hr h
    obtain ⟨pa, pc, a, cap, rest, rfl, hp, hs, hb, hl, hr⟩ := hr
    cases j with
    | zero =>
      obtain rfl : q = p := by simpa using h
      refine ⟨pa, pc, a, cap, hp, hb, hs, hl, fun i u hu => ?_⟩
      rw [Nat.zero_mul, Nat.zero_add, List.getElem?_append_left (List.getElem?_eq_some_iff.1 hu).1]
      exact hu
    | succ j =>
      obtain ⟨pa', pc', a', cap', hp', hb', hs', hl', hc⟩ := ih hr (by simpa using h)
      refine ⟨pa', pc', a', cap', hp', hb', hs', hl', fun i u hu => ?_⟩
      rw [List.getElem?_append_right (by show 7 ≤ _; omega)]
      have := hc i u hu
      rw [show (j + 1) * 7 + i - (fnC q pa pc a cap).length = j * 7 + i by show (j + 1) * 7 + i - 7 = _; omega]
      exact this

set_option maxHeartbeats 1000000 in
theorem tooF_any (nm : ByteArray) (pa : Option Addr) (pn pc : Nat) (k o : Int) (s : ByteArray) (n : Int) (a : Option Addr) (ln cap : Nat) (W : World) :
    Calls Tryz.prog 20 #[funV nm pa pn pc k o s n a ln cap] W fun e w' => e = .returned (.bool (decide (8 < pn))) ∧ Ext W w' := by
  go_enter Tryz.func20, Tryz.ntmps20
  go_wp2_with fail
  go_ret
  refine ⟨?_, Ext.alloc _ _⟩
  congr 2
  simp
  omega

theorem callTooF (v : Value) (W : World) : (callFunc 20 #[v]).run Tryz.prog W = .ok (.enter 20 #[v]) W := by kernel_rfl

set_option maxHeartbeats 1000000 in
theorem idx_fun (fs : List PFn) (a : Option Addr) (cap : Nat) (F : Nat → Prop) (w : World) (hr : RepFL w F fs a) (hcap : fs.length ≤ cap) (hf2 : fs.length ≤ 100001) :
    Calls Tryz.prog 43 #[.slice a fs.length cap, fnV 20] w fun e w' => (∃ r : Int, e = .returned (.int .i64 r) ∧ (decide (0 ≤ r) = fs.any (fun p => decide (8 < p.ps.length)))) ∧ Ext w w' := by
  have HR := hide hr
  have HC := hide callTooF
  clear hr
  go_enter Tryz.func43, Tryz.ntmps43
  go_wp2_with fail
  go_loopw [8] (fun i wr => ∃ j : Nat, i = .int .i64 j ∧ j ≤ fs.length ∧ Hd ((fs.take j).any (fun p => decide (8 < p.ps.length)) = false) ∧ Hd (Ext w wr)) (fun i _ => fs.length - (intOf i).toNat)
  case atStart => exact ⟨0, rfl, by omega, by simp [Hd], Ext.refl _⟩
  case round =>
    obtain ⟨j, rfl, hj, hN, hE⟩ := hrel
    by_cases hlt : j < fs.length
    · obtain ⟨p, hp⟩ : ∃ p, fs[j]? = some p := ⟨_, List.getElem?_eq_getElem hlt⟩
      rcases unhide HR with hnil | ⟨b, off, xs, rfl, hb, hx, hc⟩
      · rw [hnil] at hlt; simp at hlt
      obtain ⟨pa, pc, a2, cap2, h1, h2, _, _, hat⟩ := hx.at hp
      have p0 := (unhide hE).cell (hc _ _ (hat 0 _ rfl))
      have p1 := (unhide hE).cell (hc _ _ (hat 1 _ rfl))
      have p2 := (unhide hE).cell (hc _ _ (hat 2 _ rfl))
      have p3 := (unhide hE).cell (hc _ _ (hat 3 _ rfl))
      have p4 := (unhide hE).cell (hc _ _ (hat 4 _ rfl))
      have p5 := (unhide hE).cell (hc _ _ (hat 5 _ rfl))
      have p6 := (unhide hE).cell (hc _ _ (hat 6 _ rfl))
      simp only [← Nat.add_assoc, Nat.add_zero] at p0 p1 p2 p3 p4 p5 p6
      have hT := tooF_any p.nm pa p.ps.length pc p.bd.k p.bd.o p.bd.s p.bd.n a2 p.bd.l.length cap2
      have HT := hide hT
      clear hT hx hc hat hb
      have htk : fs.take (j + 1) = fs.take j ++ [p] := by
        rw [List.take_succ_eq_append_getElem hlt, (List.getElem?_eq_some_iff.1 hp).2]
      cases hd : decide (8 < p.ps.length)
      · rw [hd] at HT
        have HN2 : Hd ((fs.take (j + 1)).any (fun p => decide (8 < p.ps.length)) = false) := by
          unfold Hd
          rw [htk, List.any_append, unhide hN]
          simpa using hd
        clear htk hd hp
        go_wp2_with (go_at_call 20; refine Calls.mono (unhide HT _) ?_; rintro e w1 ⟨rfl, hw⟩; have X := hide hw; clear hw)
        go_roundw
        case rel => exact ⟨j + 1, by go_num, by omega, HN2, (unhide hE).trans (unhide X)⟩
        case measure => simp [intOf]; omega
      · rw [hd] at HT
        have HA : Hd (fs.any (fun p => decide (8 < p.ps.length)) = true) := List.any_eq_true.2 ⟨p, List.mem_of_getElem? hp, hd⟩
        clear htk hd hp
        go_wp2_with (go_at_call 20; refine Calls.mono (unhide HT _) ?_; rintro e w1 ⟨rfl, hw⟩; have X := hide hw; clear hw)
        go_ret
        exact ⟨⟨_, rfl, by rw [unhide HA]; simp⟩, (unhide hE).trans (unhide X)⟩
    · have hj2 : j = fs.length := by omega
      have HA : Hd (fs.any (fun p => decide (8 < p.ps.length)) = false) := by
        have h := unhide hN
        rw [hj2, List.take_length] at h
        exact h
      clear hj2
      go_wp2_with fail
      go_ret
      exact ⟨⟨_, rfl, by rw [unhide HA]; decide⟩, unhide hE⟩

set_option maxHeartbeats 1000000 in
theorem too_any (fs : List PFn) (a : Option Addr) (cap : Nat) (F : Nat → Prop) (w : World) (hr : RepFL w F fs a) (hcap : fs.length ≤ cap) (hf2 : fs.length ≤ 100001) :
    Calls Tryz.prog 10 #[.slice a fs.length cap] w fun e w' => e = .returned (.bool (tooP fs)) ∧ Ext w w' := by
  have HI := hide (idx_fun fs a cap F w hr hcap hf2)
  have HC : Hd (Calls Tryz.prog 19 #[.slice a fs.length cap, fnV 20] w fun e w' => e = .returned (.bool (fs.any (fun p => decide (8 < p.ps.length)))) ∧ Ext w w') := by
    unfold Hd
    go_enter Tryz.func19, Tryz.ntmps19
    go_wp2_with (go_at_call 43; refine Calls.mono (unhide HI) ?_; rintro e w1 ⟨⟨r, rfl, hq⟩, hw⟩; have X := hide hw; have Q := hide hq; clear hw hq)
    go_ret
    exact ⟨by rw [← unhide Q]; rfl, unhide X⟩
  clear HI hr
  unfold tooP
  cases h16 : decide (16 < fs.length)
  · have h : ¬ 16 < fs.length := by simpa using h16
    have h2 : decide ((16 : Int) < (fs.length : Int)) = false := by simp; omega
    clear h16
    go_enter Tryz.func10, Tryz.ntmps10
    go_wp2_with (go_at_call 19; refine Calls.mono (unhide HC) ?_; rintro e w1 ⟨rfl, hw⟩; have X := hide hw; clear hw)
    go_ret
    exact ⟨by simp, unhide X⟩
  · have h : 16 < fs.length := by simpa using h16
    have h2 : decide ((16 : Int) < (fs.length : Int)) = true := by simp; omega
    clear h16
    go_enter Tryz.func10, Tryz.ntmps10
    go_wp2_with fail
    go_ret
    exact ⟨by simp, Ext.refl _⟩

/-- The functions that a text tells, and where its reader stands behind them. -/
def rdP (s : ByteArray) (f : Nat) : List PFn × PS := funsP s.size (stsP s.size f f).2.1 f f [] (begP s)

/-- What Program answers, by what was read. -/
def ProgOf (q : List PFn × PS) (w : World) (e : Ending) (w' : World) : Prop :=
  Ext w w' ∧ ((q.2.e ≠ 0 ∧ e = .returned (.tuple #[.slice none 0 0, .int .i64 q.2.pl, .int .i64 q.2.e])) ∨
  (q.2.e = 0 ∧ tooP q.1 = true ∧ e = .returned (.tuple #[.slice none 0 0, .int .i64 0, .int .i64 65])) ∨
  (q.2.e = 0 ∧ tooP q.1 = false ∧ ∃ a cap, e = .returned (.tuple #[.slice a q.1.length cap, .int .i64 0, .int .i64 0]) ∧ q.1.length ≤ cap ∧ RepFL w' (Fr w.heap.size w'.heap.size) q.1 a))

theorem funs_len (len : Nat) (bl : Rdr) (f : Nat) (hb : Shorter bl) : ∀ (j : Nat) (acc : List PFn) (st : PS), (funsP len bl f j acc st).1.length ≤ acc.length + st.ts.length
  | 0, acc, st => by simp [funsP]
  | j + 1, acc, st => by
    rw [funsP]
    split
    · simp
    · rename_i hz
      have hne : st.ts ≠ [] := fun e => by rw [e] at hz; simp at hz
      have h1 := funs_len len bl f hb j (acc ++ [(funP len bl f st).1]) (funP len bl f st).2
      have h2 := fun_lt (len := len) (f := f) hb hne
      simp at h1
      omega

theorem opx_lt {w : World} (h : Opx w) : 0 < w.heap.size :=
  World.block_lt_of_cell? w ⟨0, 0, none⟩ (h 0 _ rfl)

set_option maxHeartbeats 1000000 in
theorem program_any (s : ByteArray) (f : Nat) (w : World) (he : Er w) (hO : Opx w) (hmax : s.size ≤ 140737488355328) (hf : (begP s).ts.length < f) (hf2 : f ≤ 100000) :
    Calls Tryz.prog 4 #[.string s] w (ProgOf (rdP s f) w) := by
  have HBg := hide (pbegin_any s w he hmax)
  have hlen := funs_len s.size (stsP s.size f f).2.1 f (blkIs_le s.size f) f [] (begP s)
  have HF := hide (fun gg W (x : Rs W gg s.size (begP s)) => funs_any s.size gg (stsP s.size f f).2.1 f (begP s) W x hf hf2 (blkIs_le s.size f) (fun p hp => (blkIs gg s.size f hf2).ex p W (by omega)))
  have hp := opx_lt hO
  have HO := hide hO
  replace HF : Hd (∀ gg W, Rs W gg s.size (begP s) → Calls Tryz.prog 9 #[.pointer (some ⟨gg, 0, none⟩)] W (FunsAre gg s.size W (rdP s f))) := HF
  replace hlen : (rdP s f).1.length ≤ 100001 := by
    have : (rdP s f).1.length ≤ 0 + (begP s).ts.length := hlen
    omega
  generalize rdP s f = q at *
  generalize begP s = st0 at *
  obtain ⟨fs, ⟨ts, op, pl, er⟩⟩ := q
  clear hO hf he
  by_cases h0 : er = 0
  · subst h0
    cases ht : tooP fs
    · go_enter Tryz.func4, Tryz.ntmps4
      go_wp2_with (first
        | (go_at_call 8; refine Calls.mono (unhide HBg) ?_; rintro e w1 ⟨gg, rfl, hgg, hs, hw⟩; have S1 := hide hs; have X1 := hide hw; have O1 := hide (Rs.mk hs ((unhide HO).ext hw) (by omega)); clear hw hs)
        | (go_at_call 9; refine Calls.mono (unhide HF gg _ (unhide O1)) ?_; rintro e w2 ⟨a, cap, rfl, hcap, hfl, hs, hw⟩; have HTo := hide (too_any fs a cap _ w2 hfl hcap hlen); have c3 : w2.cell? ⟨gg, 3, none⟩ = some (.int .i64 pl) := (by obtain ⟨T, h1, _⟩ := hs.ex; exact rowC h1 3 rfl); have c4 : w2.cell? ⟨gg, 4, none⟩ = some (.int .i64 0) := (by obtain ⟨T, h1, _⟩ := hs.ex; exact rowC h1 4 rfl); have FL := hide hfl; have X2 := hide ((unhide X1).gr hw hgg); have hz2 : w1.heap.size ≤ w2.heap.size := hw.size; have hz1 : w.heap.size ≤ w1.heap.size := (unhide X1).le; clear hw hs hfl)
        | (go_at_call 10; refine Calls.mono (unhide HTo) ?_; rintro e w3 ⟨he, hw⟩; rw [ht] at he; obtain rfl := he; have X3 := hide hw; clear hw))
      exact bodyPost_ret (v := .tuple #[.slice a fs.length cap, .int .i64 0, .int .i64 0]) (by simp [results, Tryz.results4]) rfl ⟨(unhide X2).trans (unhide X3), Or.inr (Or.inr ⟨rfl, ht, a, cap, rfl, hcap, RepFL.to (fun b hb => ⟨⟨by have := hb.1; omega, Nat.lt_of_lt_of_le hb.2 (unhide X3).le⟩, (unhide X3).block b hb.2⟩) (unhide FL)⟩)⟩
    · go_enter Tryz.func4, Tryz.ntmps4
      go_wp2_with (first
        | (go_at_call 8; refine Calls.mono (unhide HBg) ?_; rintro e w1 ⟨gg, rfl, hgg, hs, hw⟩; have S1 := hide hs; have X1 := hide hw; have O1 := hide (Rs.mk hs ((unhide HO).ext hw) (by omega)); clear hw hs)
        | (go_at_call 9; refine Calls.mono (unhide HF gg _ (unhide O1)) ?_; rintro e w2 ⟨a, cap, rfl, hcap, hfl, hs, hw⟩; have HTo := hide (too_any fs a cap _ w2 hfl hcap hlen); have c3 : w2.cell? ⟨gg, 3, none⟩ = some (.int .i64 pl) := (by obtain ⟨T, h1, _⟩ := hs.ex; exact rowC h1 3 rfl); have c4 : w2.cell? ⟨gg, 4, none⟩ = some (.int .i64 0) := (by obtain ⟨T, h1, _⟩ := hs.ex; exact rowC h1 4 rfl); have FL := hide hfl; have X2 := hide ((unhide X1).gr hw hgg); have hz2 : w1.heap.size ≤ w2.heap.size := hw.size; have hz1 : w.heap.size ≤ w1.heap.size := (unhide X1).le; clear hw hs hfl)
        | (go_at_call 10; refine Calls.mono (unhide HTo) ?_; rintro e w3 ⟨he, hw⟩; rw [ht] at he; obtain rfl := he; have X3 := hide hw; clear hw))
      exact bodyPost_ret (v := .tuple #[.slice none 0 0, .int .i64 0, .int .i64 65]) (by simp [results, Tryz.results4]) rfl ⟨(unhide X2).trans (unhide X3), Or.inr (Or.inl ⟨rfl, ht, rfl⟩)⟩
  · have h1 : (er == 0) = false := by simpa using h0
    have h2 : (er != 0) = true := by simp [h0]
    have H0 := hide h0
    clear h0
    go_enter Tryz.func4, Tryz.ntmps4
    go_wp2_with (first
      | (go_at_call 8; refine Calls.mono (unhide HBg) ?_; rintro e w1 ⟨gg, rfl, hgg, hs, hw⟩; have S1 := hide hs; have X1 := hide hw; have O1 := hide (Rs.mk hs ((unhide HO).ext hw) (by omega)); clear hw hs)
      | (go_at_call 9; refine Calls.mono (unhide HF gg _ (unhide O1)) ?_; rintro e w2 ⟨a, cap, rfl, hcap, hfl, hs, hw⟩; have HTo := hide (too_any fs a cap _ w2 hfl hcap hlen); have c3 : w2.cell? ⟨gg, 3, none⟩ = some (.int .i64 pl) := (by obtain ⟨T, h1, _⟩ := hs.ex; exact rowC h1 3 rfl); have c4 : w2.cell? ⟨gg, 4, none⟩ = some (.int .i64 er) := (by obtain ⟨T, h1, _⟩ := hs.ex; exact rowC h1 4 rfl); have FL := hide hfl; have X2 := hide ((unhide X1).gr hw hgg); have hz2 : w1.heap.size ≤ w2.heap.size := hw.size; have hz1 : w.heap.size ≤ w1.heap.size := (unhide X1).le; clear hw hs hfl))
    go_region
    go_wp2_with fail
    exact bodyPost_ret (v := .tuple #[.slice none 0 0, .int .i64 pl, .int .i64 er]) (by simp [results, Tryz.results4]) rfl ⟨(unhide X2).trans (Ext.drew (Ext.refl _)), Or.inl ⟨unhide H0, rfl⟩⟩

end Go.Proofs.YtgkiihjakbnhcaaGreatDoor

namespace Go.Proofs.YtgkiihjakbnhcaaGreatDoor
open Go.RowKit

/-- A reader at its end: what is left is a fault. -/
def finP (len : Nat) (st : PS) : PS := if st.ts.length = 0 then st else st.fail len 10
/-- The expression that a text tells. -/
def xrP (s : ByteArray) (f : Nat) : PN × PS := ((exP s.size f (begP s)).1, finP s.size (exP s.size f (begP s)).2)

set_option maxHeartbeats 1000000 in
theorem finish_any (len g : Nat) (st : PS) (w : World) (hS : St w g len st) :
    Calls Tryz.prog 32 #[.pointer (some ⟨g, 0, none⟩)] w fun e w' => e = .returned (.tuple #[]) ∧ St w' g len (finP len st) ∧ Gr g w w' := by
  have HE := hide (ended_any len g st w hS)
  have HF := hide (fail_any len g st 10 w hS)
  have HS := hide hS
  by_cases h : st.ts.length = 0
  · have hP : finP len st = st := by unfold finP; rw [if_pos h]
    have HP := hide hP
    have hb : ((st.ts.length : Int) == 0) = true := by simp [h]
    rw [hb] at HE
    clear hS hP h hb HF
    go_enter Tryz.func32, Tryz.ntmps32
    go_wp2_with (go_at_call 17; refine Calls.mono (unhide HE) ?_; rintro e w1 ⟨rfl, hw⟩; obtain rfl := hw.symm)
    go_end0
    rw [unhide HP]
    exact ⟨rfl, unhide HS, Gr.refl _ _⟩
  · have hP : finP len st = st.fail len 10 := by unfold finP; rw [if_neg h]
    have HP := hide hP
    have hb : ((st.ts.length : Int) == 0) = false := by rw [beq_eq_false_iff_ne]; omega
    rw [hb] at HE
    clear hS hP h hb
    go_enter Tryz.func32, Tryz.ntmps32
    go_wp2_with (first
      | (go_at_call 17; refine Calls.mono (unhide HE) ?_; rintro e w1 ⟨rfl, hw⟩; obtain rfl := hw.symm)
      | (go_at_call 52; refine Calls.mono (unhide HF) ?_; rintro e w1 ⟨rfl, a, b⟩; have A := hide a; have B := hide b; clear a b))
    go_end0
    rw [unhide HP]
    exact ⟨rfl, unhide A, unhide B⟩

end Go.Proofs.YtgkiihjakbnhcaaGreatDoor

namespace Go.Proofs.YtgkiihjakbnhcaaGreatDoor
open Go.RowKit

/-- A reader does not lean on a block that holds a node of nothing. -/
theorem St.apart {w : World} {g len N : Nat} {st : PS} (h : St w g len st) (hN : w.heap[N]? = some (nodO 0 0 ⟨#[]⟩ 0 (.slice none 0 0))) (hne : N ≠ g) (w' : World) (hk : ∀ b, b ≠ N → w'.heap[b]? = w.heap[b]?) : St w' g len st := by
  obtain ⟨T, h1, a, cap, rfl, h3, h4, h5⟩ := h.ex
  refine ⟨_, (hk g (fun e => hne e.symm)).trans h1, a, cap, rfl, h3, h4, ?_⟩
  rcases h5 with h5 | ⟨b, off, rfl, hb, hc⟩
  · exact Or.inl h5
  · cases hts : st.ts with
    | nil => exact Or.inl rfl
    | cons x r =>
      refine Or.inr ⟨b, off, rfl, hb, ?_⟩
      rw [hts] at hc
      by_cases hbN : b = N
      · exfalso
        subst hbN
        have c1 := hc 1 (.string x.t) (by simp [tkC])
        have c3 := hc 3 (.int .i64 x.o) (by simp [tkC])
        rw [cell_of_row w b _ _ _ (0, 0) hN] at c1 c3
        match off, c1, c3 with
        | 0, c1, _ => simp at c1
        | 1, _, c3 => simp at c3
        | 2, c1, _ => simp at c1
        | 3, c1, _ => simp at c1
        | off + 4, c1, _ => simp at c1
      · intro j u hu
        rw [World.cell?_of_block (w := w) (hk b hbN)]
        exact hc j u hu

theorem set5_other (w : World) (g b : Nat) (k o : Int) (s : ByteArray) (n : Int) (l : Value) (hb : b ≠ g) : (set5 w g k o s n l).heap[b]? = w.heap[b]? := by
  unfold set5
  rw [Below.heap_setCell _ _ _ _ hb, Below.heap_setCell _ _ _ _ hb, Below.heap_setCell _ _ _ _ hb, Below.heap_setCell _ _ _ _ hb, Below.heap_setCell _ _ _ _ hb]

/-- What parse.Expr answers. -/
def ExprOf (q : PN × PS) (w : World) (e : Ending) (w' : World) : Prop :=
  Ext w w' ∧ ((q.2.e ≠ 0 ∧ e = .returned (.tuple #[.agg #[.int .i64 0, .int .i64 0, .string ⟨#[]⟩, .int .i64 0, .slice none 0 0], .int .i64 q.2.pl, .int .i64 q.2.e])) ∨
    (q.2.e = 0 ∧ ∃ v, e = .returned (.tuple #[v, .int .i64 0, .int .i64 0]) ∧ RepN w' (Fr w.heap.size w'.heap.size) q.1 v))

set_option maxHeartbeats 1000000 in
theorem exprT_any (s : ByteArray) (f : Nat) (w : World) (he : Er w) (hO : Opx w) (hmax : s.size ≤ 140737488355328) (hf : (begP s).ts.length < f) (hf2 : f ≤ 100000) :
    Calls Tryz.prog 14 #[.string s] w (ExprOf (xrP s f) w) := by
  have HBg := hide (fun (W : World) (x : Ext w W) => pbegin_any s W (he.on x) hmax)
  have HX := hide (fun gg W (x : Rs W gg s.size (begP s)) => exIs gg s.size f hf2 (begP s) W hf x)
  have HFi := hide (fun gg W (x : St W gg s.size (exP s.size f (begP s)).2) => finish_any s.size gg _ W x)
  have hp := opx_lt hO
  have HO := hide hO
  obtain ⟨fq, hfq⟩ : ∃ fq, fq = finP s.size (exP s.size f (begP s)).2 := ⟨_, rfl⟩
  have hq : xrP s f = ((exP s.size f (begP s)).1, fq) := by rw [hfq]; rfl
  rw [hq]
  rw [← hfq] at HFi
  clear hfq hq he hO hf
  generalize exP s.size f (begP s) = q at *
  generalize begP s = st0 at *
  obtain ⟨⟨k, o, ss, nn, l⟩, st1⟩ := q
  obtain ⟨ts, op, pl, er⟩ := fq
  by_cases h0 : er = 0
  · subst h0
    go_enter Tryz.func14, Tryz.ntmps14
    go_wp2_with (first
      | (go_at_call 8; refine Calls.mono (unhide HBg _ (Ext.alloc _ _)) ?_; rintro e w1 ⟨gg, rfl, hgg, hs, hw⟩; have hgg : w.heap.size + 1 ≤ gg := (by rw [size_alloc] at hgg; exact hgg); have RN1 := hide (hw.row (Go.heap_alloc_new w _)); have X1 := hide ((Ext.alloc _ _).trans hw); have O1 := hide (Rs.mk hs ((unhide HO).ext (unhide X1)) (by omega)); clear hw hs)
      | (go_at_call 31; refine Calls.mono (unhide HX gg _ (unhide O1)) ?_; rintro e w2 ⟨v, rfl, hrep, hs, hw⟩; have S2 := hide hs; have RP := hide hrep; have X2 := hide ((unhide X1).gr hw (by omega)); rw [RepN] at hrep; obtain ⟨la, lc, rfl, _, _⟩ := hrep; have RN2 := hw.row (unhide RN1) (by omega); have r0 := rowC RN2 0 rfl; have r1 := rowC RN2 1 rfl; have r2 := rowC RN2 2 rfl; have r3 := rowC RN2 3 rfl; have r4 := rowC RN2 4 rfl; have rf := rowF RN2; have S3 := hide (hs.apart RN2 (by omega)); have RN3 := hide RN2; clear hw hs RN2)
      | (go_at_call 32; refine Calls.mono (unhide HFi gg _ (unhide S3 _ (fun b hb => set5_other w2 _ b k o ss nn _ hb))) ?_; rintro e w3 ⟨rfl, hs, hw⟩; have c3 : w3.cell? ⟨gg, 3, none⟩ = some (.int .i64 pl) := (by obtain ⟨T, h1, _⟩ := hs.ex; exact rowC h1 3 rfl); have c4 : w3.cell? ⟨gg, 4, none⟩ = some (.int .i64 0) := (by obtain ⟨T, h1, _⟩ := hs.ex; exact rowC h1 4 rfl); have X3 := hide hw; clear r0 r1 r2 r3 r4 rf; have RN4 := hw.row (set5_row (unhide RN3) k o ss nn _) (by omega); have z0 := rowC RN4 0 rfl; have z1 := rowC RN4 1 rfl; have z2 := rowC RN4 2 rfl; have z3 := rowC RN4 3 rfl; have z4 := rowC RN4 4 rfl; have zf := rowF RN4; have E3 := hide ((set5_ext (unhide X2) w.heap.size (Nat.le_refl _) k o ss nn _).gr hw (by omega)); have RN5 := hide RN4; clear hw hs RN4))
    have hb1 : gg < w1.heap.size := (unhide O1).st.lt
    have hRep : Hd (RepN (set5 w3 w.heap.size k o ss nn (.slice la l.length lc)) (Fr w.heap.size (set5 w3 w.heap.size k o ss nn (.slice la l.length lc)).heap.size) ⟨k, o, ss, nn, l⟩ (nodV k o ss nn (.slice la l.length lc))) := by
      have hx := (unhide X3)
      have hz := hx.size
      rw [set5_size] at hz
      have hz1 := (unhide X1).size
      rw [set5_size]
      refine RepN.to (fun b hb => ⟨⟨by have := hb.1; omega, Nat.lt_of_lt_of_le hb.2 hz⟩, ?_⟩) _ _ (unhide RP)
      have h1 := hb.1
      have h2 := hb.2
      have hN : b ≠ w.heap.size := by have := (unhide RN1); have := (Array.getElem?_eq_some_iff.1 this).1; omega
      rw [set5_block hN, hx.block b (by rw [set5_size]; exact h2) (by omega), set5_block hN]
    have hE : Hd (Ext w (set5 w3 w.heap.size k o ss nn (.slice la l.length lc))) := set5_ext (unhide E3) w.heap.size (Nat.le_refl _) k o ss nn _
    have hRow := set5_row (unhide RN5) k o ss nn (.slice la l.length lc)
    have q0 := rowC hRow 0 rfl
    have q1 := rowC hRow 1 rfl
    have q2 := rowC hRow 2 rfl
    have q3 := rowC hRow 3 rfl
    have q4 := rowC hRow 4 rfl
    clear hRow z0 z1 z2 z3 z4
    exact bodyPost_ret (v := .tuple #[nodV k o ss nn (.slice la l.length lc), .int .i64 0, .int .i64 0]) (by simp [results, Tryz.results14, go_sem, q0, q1, q2, q3, q4]) rfl ⟨unhide hE, Or.inr ⟨rfl, _, rfl, unhide hRep⟩⟩
  · have h1 : (er == 0) = false := by simpa using h0
    have h2 : (er != 0) = true := by simp [h0]
    have H0 := hide h0
    clear h0
    go_enter Tryz.func14, Tryz.ntmps14
    go_wp2_with (first
      | (go_at_call 8; refine Calls.mono (unhide HBg _ (Ext.alloc _ _)) ?_; rintro e w1 ⟨gg, rfl, hgg, hs, hw⟩; have hgg : w.heap.size + 1 ≤ gg := (by rw [size_alloc] at hgg; exact hgg); have RN1 := hide (hw.row (Go.heap_alloc_new w _)); have X1 := hide ((Ext.alloc _ _).trans hw); have O1 := hide (Rs.mk hs ((unhide HO).ext (unhide X1)) (by omega)); clear hw hs)
      | (go_at_call 31; refine Calls.mono (unhide HX gg _ (unhide O1)) ?_; rintro e w2 ⟨v, rfl, hrep, hs, hw⟩; have S2 := hide hs; have RP := hide hrep; have X2 := hide ((unhide X1).gr hw (by omega)); rw [RepN] at hrep; obtain ⟨la, lc, rfl, _, _⟩ := hrep; have RN2 := hw.row (unhide RN1) (by omega); have r0 := rowC RN2 0 rfl; have r1 := rowC RN2 1 rfl; have r2 := rowC RN2 2 rfl; have r3 := rowC RN2 3 rfl; have r4 := rowC RN2 4 rfl; have rf := rowF RN2; have S3 := hide (hs.apart RN2 (by omega)); have RN3 := hide RN2; clear hw hs RN2)
      | (go_at_call 32; refine Calls.mono (unhide HFi gg _ (unhide S3 _ (fun b hb => set5_other w2 _ b k o ss nn _ hb))) ?_; rintro e w3 ⟨rfl, hs, hw⟩; have c3 : w3.cell? ⟨gg, 3, none⟩ = some (.int .i64 pl) := (by obtain ⟨T, h1, _⟩ := hs.ex; exact rowC h1 3 rfl); have c4 : w3.cell? ⟨gg, 4, none⟩ = some (.int .i64 er) := (by obtain ⟨T, h1, _⟩ := hs.ex; exact rowC h1 4 rfl); have X3 := hide hw; clear r0 r1 r2 r3 r4 rf; have RN4 := hw.row (set5_row (unhide RN3) k o ss nn _) (by omega); have z0 := rowC RN4 0 rfl; have z1 := rowC RN4 1 rfl; have z2 := rowC RN4 2 rfl; have z3 := rowC RN4 3 rfl; have z4 := rowC RN4 4 rfl; have zf := rowF RN4; have E3 := hide ((set5_ext (unhide X2) w.heap.size (Nat.le_refl _) k o ss nn _).gr hw (by omega)); have RN5 := hide RN4; clear hw hs RN4))
    go_region
    have hRow := set5_row (unhide RN5) 0 0 ⟨#[]⟩ 0 (.slice none 0 0)
    have hE : Hd (Ext w (set5 w3 w.heap.size 0 0 ⟨#[]⟩ 0 (.slice none 0 0))) := set5_ext (unhide E3) w.heap.size (Nat.le_refl _) 0 0 ⟨#[]⟩ 0 _
    have q0 := rowC hRow 0 rfl
    have q1 := rowC hRow 1 rfl
    have q2 := rowC hRow 2 rfl
    have q3 := rowC hRow 3 rfl
    have q4 := rowC hRow 4 rfl
    clear hRow z0 z1 z2 z3 z4
    go_wp2_with fail
    exact bodyPost_ret (v := .tuple #[nodV 0 0 ⟨#[]⟩ 0 (.slice none 0 0), .int .i64 pl, .int .i64 er]) (by simp [results, Tryz.results14, go_sem, q0, q1, q2, q3, q4]) rfl ⟨(unhide hE).drew, Or.inl ⟨unhide H0, rfl⟩⟩

end Go.Proofs.YtgkiihjakbnhcaaGreatDoor

namespace Go.Proofs.YtgkiihjakbnhcaaGreatDoor
open Go.RowKit

abbrev wrO (v : Value) (n : Int) (b : Bool) : Obj := .cells #[v, .int .i64 n, .bool b] 75 (0, 0)
/-- The block g holds a writer with the text l, of its own, behind g; n nodes gone into; b: there can be no text. -/
structure Wr (w : World) (g : Nat) (l : List UInt8) (n : Int) (b : Bool) : Prop where
  ex : ∃ v, w.heap[g]? = some (wrO v n b) ∧ w.ownsRow (g + 1) 5 1 v l.length (l.map B)

theorem Wr.lt {w : World} {g : Nat} {l : List UInt8} {n : Int} {b : Bool} (h : Wr w g l n b) : g < w.heap.size := by
  obtain ⟨v, h1, _⟩ := h.ex
  exact (Array.getElem?_eq_some_iff.1 h1).1
theorem Wr.ext {w w' : World} {g : Nat} {l : List UInt8} {n : Int} {b : Bool} (h : Wr w g l n b) (k : Ext w w') : Wr w' g l n b := by
  obtain ⟨v, h1, h2⟩ := h.ex
  exact ⟨v, k.row h1, own_ext h2 k⟩
theorem own_setW {w : World} {g i : Nat} {v x : Value} {n : Nat} {xs : List Value} (h : w.ownsRow (g + 1) 5 1 v n xs) : (w.setCell ⟨g, i, none⟩ x).ownsRow (g + 1) 5 1 v n xs := by
  obtain ⟨h1, h2 | ⟨b, cap, cur, h3, h4, h5, h6⟩⟩ := h
  · exact ⟨h1, Or.inl h2⟩
  · exact ⟨h1, Or.inr ⟨b, cap, cur, h3, h4, row_other h5 (by omega) _ _, h6⟩⟩

/-- No row of bytes. -/
def NotB (o : Option Obj) : Prop := ∀ cs f, o ≠ some (.cells cs 5 f)
/-- Of what stood only the writer's block g and rows of bytes behind it may have turned. -/
structure WrK (g : Nat) (w w' : World) : Prop where
  os : w'.os = w.os
  tape : w'.tape = w.tape
  output : w'.output = w.output
  size : w.heap.size ≤ w'.heap.size
  low : ∀ k, k < g → w'.heap[k]? = w.heap[k]?
  keep : ∀ k, k < w.heap.size → k ≠ g → NotB (w.heap[k]?) → w'.heap[k]? = w.heap[k]?
theorem WrK.refl (g : Nat) (w : World) : WrK g w w := ⟨rfl, rfl, rfl, Nat.le_refl _, fun _ _ => rfl, fun _ _ _ _ => rfl⟩
theorem WrK.trans {g : Nat} {a b c : World} (h : WrK g a b) (k : WrK g b c) : WrK g a c :=
  ⟨k.os.trans h.os, k.tape.trans h.tape, k.output.trans h.output, Nat.le_trans h.size k.size, fun i hi => (k.low i hi).trans (h.low i hi), fun i h1 h2 h3 => by
    have e := h.keep i h1 h2 h3
    exact (k.keep i (Nat.lt_of_lt_of_le h1 h.size) h2 (by rw [e]; exact h3)).trans e⟩
theorem WrK.ext {g : Nat} {a b : World} (h : Ext a b) (hg : g < a.heap.size) : WrK g a b := ⟨h.os, h.tape, h.output, h.size, fun k hk => h.block k (by omega), fun k hk _ _ => h.block k hk⟩
theorem WrK.setg {g : Nat} {a b : World} (h : WrK g a b) (i : Nat) (v : Value) : WrK g a (b.setCell ⟨g, i, none⟩ v) :=
  ⟨h.os, h.tape, h.output, by simp [World.setCell]; exact h.size, fun k hk => (Below.heap_setCell _ _ _ _ (by simp only; omega)).trans (h.low k hk), fun k h1 h2 h3 => (Below.heap_setCell _ _ _ _ h2).trans (h.keep k h1 h2 h3)⟩
theorem WrK.below {g : Nat} {a b : World} (h : WrK g a b) : Below g a b := ⟨h.os, h.tape, h.output, h.size, h.low⟩
theorem WrK.drew {g : Nat} {a b : World} (h : WrK g a b) : WrK g a b.drew := ⟨h.os, h.tape, h.output, h.size, h.low, h.keep⟩
theorem WrK.grown {g k : Nat} {w W w1 : World} {t : Value} {xs : List Value} (hb : WrK g w W) (ho : W.ownsRow (g + 1) 5 1 t k xs) (hgl : g < W.heap.size) (hgrow : W.grownBy w1 t.ownBlock) : WrK g w w1 := by
  refine hb.trans ⟨hgrow.os, hgrow.tape, hgrow.output, hgrow.size, fun j hj => hgrow.block j (by omega) (fun e => ?_), fun j h1 h2 h3 => hgrow.block j h1 (fun e => ?_)⟩
  · have := (ho.lt j e.symm).1
    omega
  · obtain ⟨_, h | ⟨b, cap, cur, h, _, hrow, _⟩⟩ := ho
    · rw [h.1] at e; cases e
    · rw [h] at e
      have hjb : j = b := Option.some.inj e
      subst hjb
      exact h3 _ _ hrow

set_option maxHeartbeats 1000000 in
theorem wfail_any (g : Nat) (l : List UInt8) (n : Int) (b : Bool) (w : World) (h : Wr w g l n b) :
    Calls Tryz.prog 59 #[.pointer (some ⟨g, 0, none⟩)] w fun e w' => e = .returned (.tuple #[]) ∧ Wr w' g l n true ∧ WrK g w w' := by
  obtain ⟨v, h1, h2⟩ := h.ex
  have r2 := rowC h1 2 rfl
  have rf := rowF h1
  have H1 := hide h1
  have H2 := hide h2
  clear h h1 h2
  go_enter Tryz.func59, Tryz.ntmps59
  go_wp2_with fail
  go_end0
  exact ⟨rfl, ⟨v, row_set (unhide H1) 2 _, own_setW (unhide H2)⟩, (WrK.refl g w).setg _ _⟩

set_option maxHeartbeats 1000000 in
theorem told_any (g : Nat) (l : List UInt8) (n : Int) (b : Bool) (w : World) (h : Wr w g l n b) :
    Calls Tryz.prog 34 #[.pointer (some ⟨g, 0, none⟩)] w fun e w' => e = .returned (if b then .tuple #[.string ⟨#[]⟩, .bool false] else .tuple #[.string ⟨l.toArray⟩, .bool true]) ∧ w' = w := by
  obtain ⟨v, h1, h2⟩ := h.ex
  have r0 := rowC h1 0 rfl
  have r2 := rowC h1 2 rfl
  have hcv := run_text_of_row h2
  clear h h1 h2
  cases b
  · go_enter Tryz.func34, Tryz.ntmps34
    go_wp2_with fail
    exact bodyPost_ret (v := .tuple #[.string ⟨l.toArray⟩, .bool true]) (by simp [results, Tryz.results34]) rfl ⟨rfl, rfl⟩
  · go_enter Tryz.func34, Tryz.ntmps34
    go_wp2_with fail
    exact bodyPost_ret (v := .tuple #[.string ⟨#[]⟩, .bool false]) (by simp [results, Tryz.results34]) rfl ⟨rfl, rfl⟩

/-- One more node is gone into: 2000 of them at most. -/
def entN (n : Int) (b : Bool) : Bool := b || decide (2000 < n + 1)
set_option maxHeartbeats 1000000 in
theorem wenter_any (g : Nat) (l : List UInt8) (n : Int) (b : Bool) (w : World) (h : Wr w g l n b) (hn : 0 ≤ n) (hn2 : n ≤ 100000) :
    Calls Tryz.prog 53 #[.pointer (some ⟨g, 0, none⟩)] w fun e w' => e = .returned (.bool (!(entN n b))) ∧ Wr w' g l (n + 1) (entN n b) ∧ WrK g w w' := by
  obtain ⟨v, h1, h2⟩ := h.ex
  have r1 := rowC h1 1 rfl
  have r2 := rowC h1 2 rfl
  have rf := rowF h1
  have S1 : Hd (Wr (w.setCell ⟨g, 1, none⟩ (.int .i64 (n + 1))) g l (n + 1) b) := ⟨v, row_set h1 1 _, own_setW h2⟩
  have HF := hide (wfail_any g l (n + 1) b _ (unhide S1))
  have hB : Hd (WrK g w (w.setCell ⟨g, 1, none⟩ (.int .i64 (n + 1)))) := (WrK.refl g w).setg _ _
  clear h h1 h2
  by_cases hc : 2000 < n + 1
  · have hE : entN n b = true := by unfold entN; simp [hc]
    rw [hE]
    go_enter Tryz.func53, Tryz.ntmps53
    go_wp2_with (go_at_call 59; refine Calls.mono (unhide HF) ?_; rintro e w2 ⟨rfl, hs, hw⟩; have c2 : w2.cell? ⟨g, 2, none⟩ = some (.bool true) := (by obtain ⟨T, h1, _⟩ := hs.ex; exact rowC h1 2 rfl); have S2 := hide hs; have B2 := hide ((unhide hB).trans hw); clear hs hw)
    go_ret
    exact ⟨rfl, unhide S2, unhide B2⟩
  · have hE : entN n b = b := by unfold entN; simp [hc]
    rw [hE]
    go_enter Tryz.func53, Tryz.ntmps53
    go_wp2_with fail
    go_ret
    exact ⟨rfl, unhide S1, unhide hB⟩

end Go.Proofs.YtgkiihjakbnhcaaGreatDoor
