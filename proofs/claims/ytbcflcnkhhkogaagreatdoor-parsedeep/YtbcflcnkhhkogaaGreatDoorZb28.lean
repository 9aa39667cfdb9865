/- A reader at a text's begin; too many functions or parameters; all functions of a text. -/
import Derived.Test.YtbcflcnkhhkogaaGreatDoorZb27
set_option linter.unusedSimpArgs false
set_option linter.unusedVariables false
set_option maxRecDepth 10000

namespace Go.Proofs.YtbcflcnkhhkogaaGreatDoor
open Go.RowKit

theorem lexF_len : ∀ (f : Nat) (s : ByteArray) (o : Nat), (lexF f s o).1.length ≤ f
  | 0, s, o => by simp [lexF]
  | f + 1, s, o => by
    rw [lexF]
    split
    · simp
    · split
      · simp
      · have := lexF_len f s
        simp only [List.length_cons]
        rename_i m _
        have h := this m
        omega

/-- Where a reader stands at a text's begin. -/
def begP (s : ByteArray) : PS := if 4000 < s.size then ⟨[], 0, 0, 2⟩ else match (lexF (s.size + 1) s 0).2 with
  | some b => ⟨[], 0, (b : Nat), 10⟩
  | none => ⟨(lexF (s.size + 1) s 0).1, 0, 0, 0⟩
theorem begP_len (s : ByteArray) : (begP s).ts.length < 4002 := by
  unfold begP
  split
  · simp
  · have := lexF_len (s.size + 1) s 0
    split
    · simp
    · show (lexF (s.size + 1) s 0).1.length < 4002
      omega

theorem begP_long {s : ByteArray} (h : 4000 < s.size) : begP s = ⟨[], 0, 0, 2⟩ := by unfold begP; rw [if_pos h]
theorem begP_bad {s : ByteArray} (h : s.size ≤ 4000) {b : Nat} (hb : (lexF (s.size + 1) s 0).2 = some b) : begP s = ⟨[], 0, (b : Nat), 10⟩ := by unfold begP; rw [if_neg (by omega), hb]
theorem begP_good {s : ByteArray} (h : s.size ≤ 4000) (hb : (lexF (s.size + 1) s 0).2 = none) : begP s = ⟨(lexF (s.size + 1) s 0).1, 0, 0, 0⟩ := by unfold begP; rw [if_neg (by omega), hb]

theorem Sl.own {w1 : World} {base g : Nat} {v : Value} {ts : List Tk} (hown : w1.ownsRow base 110 4 v ts.length (ts.flatMap tkC)) (hg : w1.heap.size ≤ g) (ob : Obj) : Sl (w1.alloc ob) g v ts := by
  obtain ⟨hlen, ⟨e, h0⟩ | ⟨b, cap, cur, rfl, hb, hrow, hc, hcm, _⟩⟩ := id hown
  · have : ts = [] := List.length_eq_zero_iff.1 h0
    subst this
    rw [e]
    exact slNil _ _
  · refine ⟨_, cap, rfl, hc, by unfold maxLen at hcm; omega, Or.inr ⟨b, 0, rfl, Nat.lt_of_lt_of_le (Array.getElem?_eq_some_iff.1 hrow).1 hg, fun j u hu => (Ext.alloc w1 ob).cell (cells_own hown j u hu)⟩⟩

theorem toks_beg (s : ByteArray) (w : World) (he : Er w) (hmax : s.size ≤ 140737488355328) :
    Calls Tryz.prog 39 #[.string s] w fun e w' => ∃ a n cap, e = .returned (.tuple #[.slice a n cap, .int .i64 (begP s).pl, .int .i64 (begP s).e]) ∧ (begP s).op = 0 ∧ (∀ ob, Sl (w'.alloc ob) w'.heap.size (.slice a n cap) (begP s).ts) ∧ Ext w w' := by
  refine (tokens_any s w he hmax).mono ?_
  rintro e w1 (⟨hlong, rfl, hx⟩ | ⟨hlong, b, hb, rfl, hx⟩ | ⟨hlong, hb, v, rfl, hown, hx⟩)
  · rw [begP_long hlong]
    exact ⟨none, 0, 0, rfl, rfl, fun _ => slNil _ _, hx⟩
  · rw [begP_bad hlong hb]
    exact ⟨none, 0, 0, rfl, rfl, fun _ => slNil _ _, hx⟩
  · rw [begP_good hlong hb]
    have hs := fun ob => Sl.own hown (Nat.le_refl _) ob
    obtain ⟨hlen, ⟨e, h0⟩ | ⟨b, cap, cur, e, _⟩⟩ := id hown
    · subst e
      exact ⟨none, 0, 0, rfl, rfl, hs, hx⟩
    · subst e
      exact ⟨_, _, cap, rfl, rfl, hs, hx⟩

set_option maxHeartbeats 1000000 in
theorem pbegin_any (s : ByteArray) (w : World) (he : Er w) (hmax : s.size ≤ 140737488355328) :
    Calls Tryz.prog 21 #[.string s] w fun e w' => ∃ g, e = .returned (.pointer (some ⟨g, 0, none⟩)) ∧ w.heap.size ≤ g ∧ St w' g s.size (begP s) ∧ Ext w w' := by
  have HT := hide (toks_beg s w he hmax)
  generalize begP s = st at *
  obtain ⟨ts, op, pl, er⟩ := st
  go_enter Tryz.func21, Tryz.ntmps21
  go_wp2_with (go_at_call 39; refine Calls.mono (unhide HT) ?_; rintro e w1 ⟨a, n, cap, rfl, hop, hs, hx⟩; have HO := hide hop; have HS := hide hs; have X := hide hx; clear hop hs hx)
  go_ret
  have hop : op = 0 := unhide HO
  subst hop
  exact ⟨_, rfl, (unhide X).le, ⟨⟨_, Go.heap_alloc_new w1 _, unhide HS _⟩⟩, (unhide X).trans (Ext.alloc _ _)⟩

/-- Too many functions, or parameters of one. -/
def tooP (fs : List PFn) : Bool := decide (16 < fs.length) || fs.any (fun p => decide (8 < p.ps.length))

theorem RowF.at {w : World} {F : Nat → Prop} : ∀ {ps : List PFn} {xs : List Value} {j : Nat} {p : PFn}, RowF w F ps xs → ps[j]? = some p → ∃ pa pc a cap, p.ps.length ≤ pc ∧ p.bd.l.length ≤ cap ∧ RepS w F p.ps pa ∧ RepNL w F p.bd.l a ∧ ∀ i u, (fnC p pa pc a cap)[i]? = some u → xs[j * 7 + i]? = some u := by
  intro ps
  induction ps with
  | nil => intro xs j p _ h; simp at h
  | cons q ps ih =>
    intro xs j p hr h
    obtain ⟨pa, pc, a, cap, rest, rfl, hp, hs, hb, hl, hr⟩ := hr
    cases j with
    | zero =>
      obtain rfl : q = p := by simpa using h
      refine ⟨pa, pc, a, cap, hp, hb, hs, hl, fun i u hu => ?_⟩
      rw [Nat.zero_mul, Nat.zero_add, List.getElem?_append_left (List.getElem?_eq_some_iff.1 hu).1]
      exact hu
    | succ j =>
      obtain ⟨pa', pc', a', cap', hp', hb', hs', hl', hc⟩ := ih hr (by simpa using h)
      refine ⟨pa', pc', a', cap', hp', hb', hs', hl', fun i u hu => ?_⟩
      rw [List.getElem?_append_right (by show 7 ≤ _; omega)]
      have := hc i u hu
      rw [show (j + 1) * 7 + i - (fnC q pa pc a cap).length = j * 7 + i by show (j + 1) * 7 + i - 7 = _; omega]
      exact this

set_option maxHeartbeats 1000000 in
theorem tooF_any (nm : ByteArray) (pa : Option Addr) (pn pc : Nat) (k o : Int) (s : ByteArray) (n : Int) (a : Option Addr) (ln cap : Nat) (W : World) :
    Calls Tryz.prog 47 #[funV nm pa pn pc k o s n a ln cap] W fun e w' => e = .returned (.bool (decide (8 < pn))) ∧ Ext W w' := by
  go_enter Tryz.func47, Tryz.ntmps47
  go_wp2_with fail
  go_ret
  refine ⟨?_, Ext.alloc _ _⟩
  congr 2
  simp
  omega

theorem callTooF (v : Value) (W : World) : (callFunc 47 #[v]).run Tryz.prog W = .ok (.enter 47 #[v]) W := by kernel_rfl

set_option maxHeartbeats 1000000 in
theorem idx_fun (fs : List PFn) (a : Option Addr) (cap : Nat) (F : Nat → Prop) (w : World) (hr : RepFL w F fs a) (hcap : fs.length ≤ cap) (hf2 : fs.length ≤ 100001) :
    Calls Tryz.prog 92 #[.slice a fs.length cap, fnV 47] w fun e w' => (∃ r : Int, e = .returned (.int .i64 r) ∧ (decide (0 ≤ r) = fs.any (fun p => decide (8 < p.ps.length)))) ∧ Ext w w' := by
  have HR := hide hr
  have HC := hide callTooF
  clear hr
  go_enter Tryz.func92, Tryz.ntmps92
  go_wp2_with fail
  go_loopw [8] (fun i wr => ∃ j : Nat, i = .int .i64 j ∧ j ≤ fs.length ∧ Hd ((fs.take j).any (fun p => decide (8 < p.ps.length)) = false) ∧ Hd (Ext w wr)) (fun i _ => fs.length - (intOf i).toNat)
  case atStart => exact ⟨0, rfl, by omega, by simp [Hd], Ext.refl _⟩
  case round =>
    obtain ⟨j, rfl, hj, hN, hE⟩ := hrel
    by_cases hlt : j < fs.length
    · obtain ⟨p, hp⟩ : ∃ p, fs[j]? = some p := ⟨_, List.getElem?_eq_getElem hlt⟩
      rcases unhide HR with hnil | ⟨b, off, xs, rfl, hb, hx, hc⟩
      · rw [hnil] at hlt; simp at hlt
      obtain ⟨pa, pc, a2, cap2, h1, h2, _, _, hat⟩ := hx.at hp
      have p0 := (unhide hE).cell (hc _ _ (hat 0 _ rfl))
      have p1 := (unhide hE).cell (hc _ _ (hat 1 _ rfl))
      have p2 := (unhide hE).cell (hc _ _ (hat 2 _ rfl))
      have p3 := (unhide hE).cell (hc _ _ (hat 3 _ rfl))
      have p4 := (unhide hE).cell (hc _ _ (hat 4 _ rfl))
      have p5 := (unhide hE).cell (hc _ _ (hat 5 _ rfl))
      have p6 := (unhide hE).cell (hc _ _ (hat 6 _ rfl))
      simp only [← Nat.add_assoc, Nat.add_zero] at p0 p1 p2 p3 p4 p5 p6
      have hT := tooF_any p.nm pa p.ps.length pc p.bd.k p.bd.o p.bd.s p.bd.n a2 p.bd.l.length cap2
      have HT := hide hT
      clear hT hx hc hat hb
      have htk : fs.take (j + 1) = fs.take j ++ [p] := by
        rw [List.take_succ_eq_append_getElem hlt, (List.getElem?_eq_some_iff.1 hp).2]
      cases hd : decide (8 < p.ps.length)
      · rw [hd] at HT
        have HN2 : Hd ((fs.take (j + 1)).any (fun p => decide (8 < p.ps.length)) = false) := by
          unfold Hd
          rw [htk, List.any_append, unhide hN]
          simpa using hd
        clear htk hd hp
        go_wp2_with (go_at_call 47; refine Calls.mono (unhide HT _) ?_; rintro e w1 ⟨rfl, hw⟩; have X := hide hw; clear hw)
        go_roundw
        case rel => exact ⟨j + 1, by go_num, by omega, HN2, (unhide hE).trans (unhide X)⟩
        case measure => simp [intOf]; omega
      · rw [hd] at HT
        have HA : Hd (fs.any (fun p => decide (8 < p.ps.length)) = true) := List.any_eq_true.2 ⟨p, List.mem_of_getElem? hp, hd⟩
        clear htk hd hp
        go_wp2_with (go_at_call 47; refine Calls.mono (unhide HT _) ?_; rintro e w1 ⟨rfl, hw⟩; have X := hide hw; clear hw)
        go_ret
        exact ⟨⟨_, rfl, by rw [unhide HA]; simp⟩, (unhide hE).trans (unhide X)⟩
    · have hj2 : j = fs.length := by omega
      have HA : Hd (fs.any (fun p => decide (8 < p.ps.length)) = false) := by
        have h := unhide hN
        rw [hj2, List.take_length] at h
        exact h
      clear hj2
      go_wp2_with fail
      go_ret
      exact ⟨⟨_, rfl, by rw [unhide HA]; decide⟩, unhide hE⟩

set_option maxHeartbeats 1000000 in
theorem too_any (fs : List PFn) (a : Option Addr) (cap : Nat) (F : Nat → Prop) (w : World) (hr : RepFL w F fs a) (hcap : fs.length ≤ cap) (hf2 : fs.length ≤ 100001) :
    Calls Tryz.prog 25 #[.slice a fs.length cap] w fun e w' => e = .returned (.bool (tooP fs)) ∧ Ext w w' := by
  have HI := hide (idx_fun fs a cap F w hr hcap hf2)
  have HC : Hd (Calls Tryz.prog 46 #[.slice a fs.length cap, fnV 47] w fun e w' => e = .returned (.bool (fs.any (fun p => decide (8 < p.ps.length)))) ∧ Ext w w') := by
    unfold Hd
    go_enter Tryz.func46, Tryz.ntmps46
    go_wp2_with (go_at_call 92; refine Calls.mono (unhide HI) ?_; rintro e w1 ⟨⟨r, rfl, hq⟩, hw⟩; have X := hide hw; have Q := hide hq; clear hw hq)
    go_ret
    exact ⟨by rw [← unhide Q]; rfl, unhide X⟩
  clear HI hr
  unfold tooP
  cases h16 : decide (16 < fs.length)
  · have h : ¬ 16 < fs.length := by simpa using h16
    have h2 : decide ((16 : Int) < (fs.length : Int)) = false := by simp; omega
    clear h16
    go_enter Tryz.func25, Tryz.ntmps25
    go_wp2_with (go_at_call 46; refine Calls.mono (unhide HC) ?_; rintro e w1 ⟨rfl, hw⟩; have X := hide hw; clear hw)
    go_ret
    exact ⟨by simp, unhide X⟩
  · have h : 16 < fs.length := by simpa using h16
    have h2 : decide ((16 : Int) < (fs.length : Int)) = true := by simp; omega
    clear h16
    go_enter Tryz.func25, Tryz.ntmps25
    go_wp2_with fail
    go_ret
    exact ⟨by simp, Ext.refl _⟩

/-- The functions that a text tells, and where its reader stands behind them. -/
def rdP (s : ByteArray) (f : Nat) : List PFn × PS := funsP s.size (stsP s.size f f).2.1 f f [] (begP s)

/-- What Program answers, by what was read. -/
def ProgOf (q : List PFn × PS) (w : World) (e : Ending) (w' : World) : Prop :=
  Ext w w' ∧ ((q.2.e ≠ 0 ∧ e = .returned (.tuple #[.slice none 0 0, .int .i64 q.2.pl, .int .i64 q.2.e])) ∨
  (q.2.e = 0 ∧ tooP q.1 = true ∧ e = .returned (.tuple #[.slice none 0 0, .int .i64 0, .int .i64 65])) ∨
  (q.2.e = 0 ∧ tooP q.1 = false ∧ ∃ a cap, e = .returned (.tuple #[.slice a q.1.length cap, .int .i64 0, .int .i64 0]) ∧ q.1.length ≤ cap ∧ RepFL w' (Fr w.heap.size w'.heap.size) q.1 a))

theorem funs_len (len : Nat) (bl : Rdr) (f : Nat) (hb : Shorter bl) : ∀ (j : Nat) (acc : List PFn) (st : PS), (funsP len bl f j acc st).1.length ≤ acc.length + st.ts.length
  | 0, acc, st => by simp [funsP]
  | j + 1, acc, st => by
    rw [funsP]
    split
    · simp
    · rename_i hz
      have hne : st.ts ≠ [] := fun e => by rw [e] at hz; simp at hz
      have h1 := funs_len len bl f hb j (acc ++ [(funP len bl f st).1]) (funP len bl f st).2
      have h2 := fun_lt (len := len) (f := f) hb hne
      simp at h1
      omega

theorem opx_lt {w : World} (h : Opx w) : 0 < w.heap.size :=
  World.block_lt_of_cell? w ⟨0, 0, none⟩ (h 0 _ rfl)

set_option maxHeartbeats 1000000 in
theorem program_any (s : ByteArray) (f : Nat) (w : World) (he : Er w) (hO : Opx w) (hmax : s.size ≤ 140737488355328) (hf : (begP s).ts.length < f) (hf2 : f ≤ 100000) :
    Calls Tryz.prog 11 #[.string s] w (ProgOf (rdP s f) w) := by
  have HBg := hide (pbegin_any s w he hmax)
  have hlen := funs_len s.size (stsP s.size f f).2.1 f (blkIs_le s.size f) f [] (begP s)
  have HF := hide (fun gg W (x : Rs W gg s.size (begP s)) => funs_any s.size gg (stsP s.size f f).2.1 f (begP s) W x hf hf2 (blkIs_le s.size f) (fun p hp => (blkIs gg s.size f hf2).ex p W (by omega)))
  have hp := opx_lt hO
  have HO := hide hO
  replace HF : Hd (∀ gg W, Rs W gg s.size (begP s) → Calls Tryz.prog 24 #[.pointer (some ⟨gg, 0, none⟩)] W (FunsAre gg s.size W (rdP s f))) := HF
  replace hlen : (rdP s f).1.length ≤ 100001 := by
    have : (rdP s f).1.length ≤ 0 + (begP s).ts.length := hlen
    omega
  generalize rdP s f = q at *
  generalize begP s = st0 at *
  obtain ⟨fs, ⟨ts, op, pl, er⟩⟩ := q
  clear hO hf he
  by_cases h0 : er = 0
  · subst h0
    cases ht : tooP fs
    · go_enter Tryz.func11, Tryz.ntmps11
      go_wp2_with (first
        | (go_at_call 21; refine Calls.mono (unhide HBg) ?_; rintro e w1 ⟨gg, rfl, hgg, hs, hw⟩; have S1 := hide hs; have X1 := hide hw; have O1 := hide (Rs.mk hs ((unhide HO).ext hw) (by omega)); clear hw hs)
        | (go_at_call 24; refine Calls.mono (unhide HF gg _ (unhide O1)) ?_; rintro e w2 ⟨a, cap, rfl, hcap, hfl, hs, hw⟩; have HTo := hide (too_any fs a cap _ w2 hfl hcap hlen); have c3 : w2.cell? ⟨gg, 3, none⟩ = some (.int .i64 pl) := (by obtain ⟨T, h1, _⟩ := hs.ex; exact rowC h1 3 rfl); have c4 : w2.cell? ⟨gg, 4, none⟩ = some (.int .i64 0) := (by obtain ⟨T, h1, _⟩ := hs.ex; exact rowC h1 4 rfl); have FL := hide hfl; have X2 := hide ((unhide X1).gr hw hgg); have hz2 : w1.heap.size ≤ w2.heap.size := hw.size; have hz1 : w.heap.size ≤ w1.heap.size := (unhide X1).le; clear hw hs hfl)
        | (go_at_call 25; refine Calls.mono (unhide HTo) ?_; rintro e w3 ⟨he, hw⟩; rw [ht] at he; obtain rfl := he; have X3 := hide hw; clear hw))
      exact bodyPost_ret (v := .tuple #[.slice a fs.length cap, .int .i64 0, .int .i64 0]) (by simp [results, Tryz.results11]) rfl ⟨(unhide X2).trans (unhide X3), Or.inr (Or.inr ⟨rfl, ht, a, cap, rfl, hcap, RepFL.to (fun b hb => ⟨⟨by have := hb.1; omega, Nat.lt_of_lt_of_le hb.2 (unhide X3).le⟩, (unhide X3).block b hb.2⟩) (unhide FL)⟩)⟩
    · go_enter Tryz.func11, Tryz.ntmps11
      go_wp2_with (first
        | (go_at_call 21; refine Calls.mono (unhide HBg) ?_; rintro e w1 ⟨gg, rfl, hgg, hs, hw⟩; have S1 := hide hs; have X1 := hide hw; have O1 := hide (Rs.mk hs ((unhide HO).ext hw) (by omega)); clear hw hs)
        | (go_at_call 24; refine Calls.mono (unhide HF gg _ (unhide O1)) ?_; rintro e w2 ⟨a, cap, rfl, hcap, hfl, hs, hw⟩; have HTo := hide (too_any fs a cap _ w2 hfl hcap hlen); have c3 : w2.cell? ⟨gg, 3, none⟩ = some (.int .i64 pl) := (by obtain ⟨T, h1, _⟩ := hs.ex; exact rowC h1 3 rfl); have c4 : w2.cell? ⟨gg, 4, none⟩ = some (.int .i64 0) := (by obtain ⟨T, h1, _⟩ := hs.ex; exact rowC h1 4 rfl); have FL := hide hfl; have X2 := hide ((unhide X1).gr hw hgg); have hz2 : w1.heap.size ≤ w2.heap.size := hw.size; have hz1 : w.heap.size ≤ w1.heap.size := (unhide X1).le; clear hw hs hfl)
        | (go_at_call 25; refine Calls.mono (unhide HTo) ?_; rintro e w3 ⟨he, hw⟩; rw [ht] at he; obtain rfl := he; have X3 := hide hw; clear hw))
      exact bodyPost_ret (v := .tuple #[.slice none 0 0, .int .i64 0, .int .i64 65]) (by simp [results, Tryz.results11]) rfl ⟨(unhide X2).trans (unhide X3), Or.inr (Or.inl ⟨rfl, ht, rfl⟩)⟩
  · have h1 : (er == 0) = false := by simpa using h0
    have h2 : (er != 0) = true := by simp [h0]
    have H0 := hide h0
    clear h0
    go_enter Tryz.func11, Tryz.ntmps11
    go_wp2_with (first
      | (go_at_call 21; refine Calls.mono (unhide HBg) ?_; rintro e w1 ⟨gg, rfl, hgg, hs, hw⟩; have S1 := hide hs; have X1 := hide hw; have O1 := hide (Rs.mk hs ((unhide HO).ext hw) (by omega)); clear hw hs)
      | (go_at_call 24; refine Calls.mono (unhide HF gg _ (unhide O1)) ?_; rintro e w2 ⟨a, cap, rfl, hcap, hfl, hs, hw⟩; have HTo := hide (too_any fs a cap _ w2 hfl hcap hlen); have c3 : w2.cell? ⟨gg, 3, none⟩ = some (.int .i64 pl) := (by obtain ⟨T, h1, _⟩ := hs.ex; exact rowC h1 3 rfl); have c4 : w2.cell? ⟨gg, 4, none⟩ = some (.int .i64 er) := (by obtain ⟨T, h1, _⟩ := hs.ex; exact rowC h1 4 rfl); have FL := hide hfl; have X2 := hide ((unhide X1).gr hw hgg); have hz2 : w1.heap.size ≤ w2.heap.size := hw.size; have hz1 : w.heap.size ≤ w1.heap.size := (unhide X1).le; clear hw hs hfl))
    go_region
    go_wp2_with fail
    exact bodyPost_ret (v := .tuple #[.slice none 0 0, .int .i64 pl, .int .i64 er]) (by simp [results, Tryz.results11]) rfl ⟨(unhide X2).trans (Ext.drew (Ext.refl _)), Or.inl ⟨unhide H0, rfl⟩⟩

end Go.Proofs.YtbcflcnkhhkogaaGreatDoor
