/- A text's functions, and what their names mean. · ScopeBlocks: its text, act by act; what Source tells of it. · What the document fixes of names. -/
import Derived.Test.YtjeledllejlpcaaGreatDoorZs27
import Derived.Test.YtjeledllejlpcaaGreatDoorZs23
set_option linter.unusedSimpArgs false
set_option linter.unusedVariables false
set_option maxRecDepth 10000

namespace Go.Proofs.YtjeledllejlpcaaGreatDoor
open Go.RowKit Go.Maps

/-- What Source tells: functions, what their names mean, the place, the error; none: it did not come to its end so soon. -/
structure PSrc where
  fs : List PFn
  sc : List PSc
  pl : Int
  e : Int
def srcQ (q : List PFn × PS) (f2 : Nat) : Option PSrc := if q.2.e ≠ 0 then some ⟨[], [], q.2.pl, q.2.e⟩ else if tooP q.1 then some ⟨[], [], 0, 65⟩ else match checkP q.1 f2 with
  | none => none
  | some (l, e) => if e ≠ 0 then some ⟨[], [], 0, e⟩ else some ⟨q.1, l, 0, 0⟩
def srcP (s : ByteArray) (f f2 : Nat) : Option PSrc := srcQ (rdP s f) f2

def SrcIs (r : PSrc) (w : World) (e : Ending) (w' : World) : Prop :=
  Ext w w' ∧ ∃ a cap b cap2, e = .returned (.tuple #[.slice a r.fs.length cap, .slice b r.sc.length cap2, .int .i64 r.pl, .int .i64 r.e]) ∧ r.fs.length ≤ cap ∧ RepFL w' (Fr w.heap.size w'.heap.size) r.fs a ∧ r.sc.length ≤ cap2 ∧ RepSc w' (Fr w.heap.size w'.heap.size) r.sc b

set_option maxHeartbeats 1000000 in
theorem source_of (s : ByteArray) (f f2 : Nat) (w : World) (r : PSrc) (hT : Tbl w) (hPg : Calls Tryz.prog 6 #[.string s] w (ProgOf (rdP s f) w)) (hf : (begP s).ts.length < f) (hf2 : f ≤ 100000) (hf3 : f2 ≤ 7000000) (hq : srcP s f f2 = some r) :
    Calls Tryz.prog 4 #[.string s] w (SrcIs r w) := by
  have HPg := hide hPg
  have hlen : (rdP s f).1.length ≤ 100001 := by
    have := funs_len s.size (stsP s.size f f).2.1 f (blkIs_le s.size f) f [] (begP s)
    have h2 : (rdP s f).1.length ≤ 0 + (begP s).ts.length := this
    omega
  have HT := hide hT
  unfold srcP at hq
  generalize rdP s f = q at *
  obtain ⟨fs, ⟨ts, op, pl, er⟩⟩ := q
  unfold srcQ at hq
  simp only at hq hlen
  clear hPg hT hf
  by_cases h0 : er = 0
  · rw [if_neg (by simp [h0])] at hq
    cases ht : tooP fs
    · rw [ht, if_neg (by decide)] at hq
      cases hc : checkP fs f2 with
      | none => rw [hc] at hq; cases hq
      | some R =>
      rw [hc] at hq
      obtain ⟨l, ec⟩ := R
      simp only at hq
      have HP2 : Hd (Calls Tryz.prog 6 #[.string s] w fun e w' => Ext w w' ∧ ∃ a cap, e = .returned (.tuple #[.slice a fs.length cap, .int .i64 0, .int .i64 0]) ∧ fs.length ≤ cap ∧ RepFL w' (Fr w.heap.size w'.heap.size) fs a) := (unhide HPg).mono (by
        rintro e w' ⟨hX, (⟨h1, _⟩ | ⟨_, h1, _⟩ | ⟨_, _, a, cap, h2, h3, h4⟩)⟩
        · exact absurd h0 h1
        · exact absurd (ht.symm.trans h1) (by decide)
        · exact ⟨hX, a, cap, h2, h3, h4⟩)
      unfold checkP at hc
      cases hsm : fs.all (fun p => small p.nm) with
      | false => rw [hsm] at hc; cases hc
      | true =>
      rw [hsm, if_pos rfl] at hc
      have hps : ∀ p ∈ fs, p.ps.length ≤ 1000000 := fun p hp => by
        unfold tooP at ht
        rw [Bool.or_eq_false_iff] at ht
        have := List.any_eq_false.1 ht.2 p hp
        simp at this
        omega
      have HCk := hide (fun (w1 : World) (hX : Ext w w1) (a : Option Addr) (cap : Nat) (h1 : fs.length ≤ cap) (h2 : RepFL w1 (Fr w.heap.size w1.heap.size) fs a) => check_w fs a cap f2 w1 (l, ec) (h2.to (fun b hb => ⟨hb.2, rfl⟩)) h1 hlen ((unhide HT).ext hX) (fun p hp => List.all_eq_true.1 hsm p hp) hps hf3 hc)
      clear hc hsm hps HPg HT
      by_cases h1 : ec = 0
      · rw [if_neg (by simp [h1])] at hq
        injection hq with hq
        subst h1 hq
        go_enter Tryz.func4, Tryz.ntmps4
        go_wp2_with (first
          | (go_at_call 6; refine Calls.mono (unhide HP2) ?_; rintro e w1 ⟨hX, a, cap, rfl, hcap, hr⟩; have X1 := hide hX; have R1 := hide hr; clear hX hr)
          | (go_at_call 7; refine Calls.mono (unhide HCk w1 (unhide X1) a cap hcap (unhide R1)) ?_; rintro e w2 ⟨hX, b, cap2, rfl, hcap2, hr⟩; have X2 := hide hX; have R2 := hide hr; clear hX hr))
        exact bodyPost_ret (v := .tuple #[.slice a fs.length cap, .slice b l.length cap2, .int .i64 0, .int .i64 0]) (by simp [results, Tryz.results4]) rfl ⟨(unhide X1).trans (unhide X2), a, cap, b, cap2, rfl, hcap, (unhide R1).to (fun k hk => ⟨⟨hk.1, Nat.lt_of_lt_of_le hk.2 (unhide X2).size⟩, (unhide X2).block k hk.2⟩), hcap2, (unhide R2).to (fun k hk => ⟨⟨Nat.le_trans (unhide X1).size hk.1, hk.2⟩, rfl⟩)⟩
      · rw [if_pos h1] at hq
        injection hq with hq
        subst hq
        have h2 : (ec == 0) = false := by simpa using h1
        have h3 : (ec != 0) = true := by simp [h1]
        clear h1
        go_enter Tryz.func4, Tryz.ntmps4
        go_wp2_with (first
          | (go_at_call 6; refine Calls.mono (unhide HP2) ?_; rintro e w1 ⟨hX, a, cap, rfl, hcap, hr⟩; have X1 := hide hX; have R1 := hide hr; clear hX hr)
          | (go_at_call 7; refine Calls.mono (unhide HCk w1 (unhide X1) a cap hcap (unhide R1)) ?_; rintro e w2 ⟨hX, b, cap2, rfl, hcap2, hr⟩; have X2 := hide hX; clear hX hr))
        exact bodyPost_ret (v := .tuple #[.slice none 0 0, .slice none 0 0, .int .i64 0, .int .i64 ec]) (by simp [results, Tryz.results4]) rfl ⟨(unhide X1).trans (unhide X2), none, 0, none, 0, rfl, Nat.le_refl _, Or.inl rfl, Nat.le_refl _, Or.inl rfl⟩
    · rw [ht, if_pos rfl] at hq
      injection hq with hq
      subst hq
      have HP2 : Hd (Calls Tryz.prog 6 #[.string s] w fun e w' => Ext w w' ∧ e = .returned (.tuple #[.slice none 0 0, .int .i64 0, .int .i64 65])) := (unhide HPg).mono (by
        rintro e w' ⟨hX, (⟨h1, _⟩ | ⟨_, _, h2⟩ | ⟨_, h1, _⟩)⟩
        · exact absurd h0 h1
        · exact ⟨hX, h2⟩
        · exact absurd (ht.symm.trans h1) (by decide))
      clear HPg HT
      go_enter Tryz.func4, Tryz.ntmps4
      go_wp2_with (go_at_call 6; refine Calls.mono (unhide HP2) ?_; rintro e w1 ⟨hX, rfl⟩; have X1 := hide hX; clear hX)
      exact bodyPost_ret (v := .tuple #[.slice none 0 0, .slice none 0 0, .int .i64 0, .int .i64 65]) (by simp [results, Tryz.results4]) rfl ⟨unhide X1, none, 0, none, 0, rfl, Nat.le_refl _, Or.inl rfl, Nat.le_refl _, Or.inl rfl⟩
  · rw [if_pos h0] at hq
    injection hq with hq
    subst hq
    have HP2 : Hd (Calls Tryz.prog 6 #[.string s] w fun e w' => Ext w w' ∧ e = .returned (.tuple #[.slice none 0 0, .int .i64 pl, .int .i64 er])) := (unhide HPg).mono (by
      rintro e w' ⟨hX, (⟨_, h2⟩ | ⟨h1, _⟩ | ⟨h1, _⟩)⟩
      · exact ⟨hX, h2⟩
      · exact absurd h1 h0
      · exact absurd h1 h0)
    have h2 : (er == 0) = false := by simpa using h0
    have h3 : (er != 0) = true := by simp [h0]
    clear HPg HT h0
    go_enter Tryz.func4, Tryz.ntmps4
    go_wp2_with (go_at_call 6; refine Calls.mono (unhide HP2) ?_; rintro e w1 ⟨hX, rfl⟩; have X1 := hide hX; clear hX)
    exact bodyPost_ret (v := .tuple #[.slice none 0 0, .slice none 0 0, .int .i64 pl, .int .i64 er]) (by simp [results, Tryz.results4]) rfl ⟨unhide X1, none, 0, none, 0, rfl, Nat.le_refl _, Or.inl rfl, Nat.le_refl _, Or.inl rfl⟩
theorem source_w (s : ByteArray) (f f2 : Nat) (w : World) (r : PSrc) (he : Er w) (hO : Opx w) (hT : Tbl w) (hmax : s.size ≤ 140737488355328) (hf : (begP s).ts.length < f) (hf2 : f ≤ 100000) (hf3 : f2 ≤ 7000000) (hq : srcP s f f2 = some r) :
    Calls Tryz.prog 4 #[.string s] w (SrcIs r w) := source_of s f f2 w r hT (program_any s f w he hO hmax hf hf2) hf hf2 hf3 hq

end Go.Proofs.YtjeledllejlpcaaGreatDoor

namespace Go.Proofs.YtjeledllejlpcaaGreatDoor
open Go.RowKit Go.Maps

/-- The text so far. -/
def tz (cur : List BS) (out : List (List BS)) : List UInt8 := wTxt (wHead ++ (openW out ++ bWL cur))
theorem tz_start : tz [] [] = [102, 110, 32, 109, 97, 105, 110, 32, 40, 32, 41, 32, 123, 32] := by kernel_rfl
theorem tz_open (cur : List BS) (out : List (List BS)) : tz [] (cur :: out) = tz cur out ++ [105, 102, 32, 49, 32, 123, 32] := by
  unfold tz
  rw [openW, bWL, List.append_nil, ← List.append_assoc (openW out), ← List.append_assoc wHead, wTxt_append (wHead ++ (openW out ++ bWL cur))]
  rfl
theorem tz_shut (cur l : List BS) (out : List (List BS)) : tz (l ++ [.fi cur]) out = tz cur (l :: out) ++ [125, 32] := by
  unfold tz
  have e : wHead ++ (openW out ++ bWL (l ++ [.fi cur])) = wHead ++ (openW (l :: out) ++ bWL cur) ++ [wRb] := by
    rw [openW, bWL_append, bWL_one, bW]
    simp [List.append_assoc]
  rw [e, wTxt_append]
  rfl
theorem tz_let (cur : List BS) (out : List (List BS)) : tz (cur ++ [.lt]) out = tz cur out ++ [108, 101, 116, 32, 120, 32, 61, 32, 49, 32, 59, 32] := by
  unfold tz
  rw [bWL_append, bWL_one, bW, ← List.append_assoc (openW out), ← List.append_assoc wHead, wTxt_append (wHead ++ (openW out ++ bWL cur))]
  rfl
theorem tz_use (cur : List BS) (out : List (List BS)) : tz (cur ++ [.us]) out = tz cur out ++ [112, 114, 105, 110, 116, 32, 120, 32, 59, 32] := by
  unfold tz
  rw [bWL_append, bWL_one, bW, ← List.append_assoc (openW out), ← List.append_assoc wHead, wTxt_append (wHead ++ (openW out ++ bWL cur))]
  rfl
theorem tz_end (cur : List BS) : tz cur [] ++ [125] = sbT cur := by
  unfold tz sbT
  rw [openW, List.nil_append]

mutual
theorem bW_len : ∀ (b : BS), (wTxt (bW b)).length ≤ 12 * bC b
  | .lt => by rw [bW, bC]; decide
  | .us => by rw [bW, bC]; decide
  | .fi l => by
    have h := bWL_len l
    rw [bW, bC, wTxt, wTxt, wTxt, wTxt_append]
    simp only [List.length_append, List.length_cons]
    have e1 : wIf.b.length = 2 := rfl
    have e2 : wOne.b.length = 1 := rfl
    have e3 : wLb.b.length = 1 := rfl
    have e4 : (wTxt [wRb]).length = 2 := rfl
    omega
theorem bWL_len : ∀ (l : List BS), (wTxt (bWL l)).length ≤ 12 * bCL l
  | [] => by rw [bWL, bCL]; decide
  | b :: l => by
    have h1 := bW_len b
    have h2 := bWL_len l
    rw [bWL, bCL, wTxt_append, List.length_append]
    omega
end
theorem sbT_len (l : List BS) : (sbT l).length ≤ 15 + 12 * bCL l := by
  have h := bWL_len l
  unfold sbT
  rw [wTxt_append, List.length_append, List.length_append]
  have e : (wTxt wHead).length = 14 := rfl
  have e2 : [(125 : UInt8)].length = 1 := rfl
  omega

/-- What Source tells of the text when all blocks are shut. -/
theorem sb_src {i : Nat} {cur : List BS} {out : List (List BS)} {seen : List Int} {lets uses : Nat} {good : Bool} (h : ZI i cur out seen lets uses good) (hi : i ≤ 30) :
    (begP ⟨(sbT (shutZ cur out)).toArray⟩).ts.length < 5000 ∧ (good = false → srcP ⟨(sbT (shutZ cur out)).toArray⟩ 5000 100000 = some ⟨[], [], 0, 11⟩) ∧
    (good = true → ∃ p : PSc, srcP ⟨(sbT (shutZ cur out)).toArray⟩ 5000 100000 = some ⟨[mainF (shutZ cur out)], [p], 0, 0⟩ ∧ p.lc = lets ∧ p.sl.length = lets + uses) := by
  obtain ⟨l, hl⟩ : ∃ l, l = shutZ cur out := ⟨_, rfl⟩
  have hd := shut_deep out cur h.deep h.dz
  have hc := shut_count out cur
  have hcn := h.cnt
  obtain ⟨e1, e2, e3⟩ := shut_ev out cur
  rw [← hl] at hd hc e1 e2 e3 ⊢
  have hlen := sbT_len l
  have hrd := sb_read l (by omega) (by omega) (by omega)
  have ht : tooP (rdP ⟨(sbT l).toArray⟩ 5000).1 = false := by rw [hrd]; rfl
  have he : (rdP ⟨(sbT l).toArray⟩ 5000).2.e = 0 := by rw [hrd]
  obtain ⟨hcP, _⟩ := rd_doc ⟨(sbT l).toArray⟩ he ht
  have hsq : srcP ⟨(sbT l).toArray⟩ 5000 100000 = if (docP [mainF l]).2 ≠ 0 then some ⟨[], [], 0, (docP [mainF l]).2⟩ else some ⟨[mainF l], (docP [mainF l]).1, 0, 0⟩ := by
    unfold srcP srcQ
    rw [if_neg (by simp [he]), ht, if_neg (by decide), hcP, hrd]
  obtain ⟨d1, d2⟩ := sb_doc l
  refine ⟨by have := begP_len ⟨(sbT l).toArray⟩; omega, fun hg => ?_, fun hg => ?_⟩
  · have hb : (bEL l ⟨false, 0, 0, false⟩).bad = true := by
      have h9 := h.bad
      rw [hg] at h9
      exact e3.trans h9
    rw [hsq, d1 hb]
    rfl
  · have hb : (bEL l ⟨false, 0, 0, false⟩).bad = false := by
      have h9 := h.bad
      rw [hg] at h9
      exact e3.trans h9
    have hlt : (bEL l ⟨false, 0, 0, false⟩).lets = lets := e1.trans (h.hlt hg)
    have hsl : (bEL l ⟨false, 0, 0, false⟩).sls = lets + uses := e2.trans (h.sls hg)
    obtain ⟨p, hp, h1, h2⟩ := d2 hb (by rw [hlt]; have := h.lb; omega)
    refine ⟨p, ?_, by rw [h1, hlt], by rw [h2, hsl]⟩
    rw [hsq, hp]
    rfl

end Go.Proofs.YtjeledllejlpcaaGreatDoor

namespace Go.Proofs.YtjeledllejlpcaaGreatDoor
open Go.RowKit Go.Maps

def aw1 : ByteArray := ⟨#[102, 110, 32, 109, 97, 105, 110, 40, 41, 32, 123, 32, 120, 32, 61, 32, 49, 59, 32, 125]⟩
def aw2 : ByteArray := ⟨#[102, 110, 32, 109, 97, 105, 110, 40, 41, 32, 123, 32, 108, 101, 116, 32, 120, 32, 61, 32, 49, 59, 32, 120, 32, 61, 32, 120, 59, 32, 125]⟩
theorem aw1_src : srcP ⟨#[102, 110, 32, 109, 97, 105, 110, 40, 41, 32, 123, 32, 120, 32, 61, 32, 49, 59, 32, 125]⟩ 100 1000 = some ⟨[], [], 0, 11⟩ := by kernel_rfl
theorem aw2_src : srcP ⟨#[102, 110, 32, 109, 97, 105, 110, 40, 41, 32, 123, 32, 108, 101, 116, 32, 120, 32, 61, 32, 49, 59, 32, 120, 32, 61, 32, 120, 59, 32, 125]⟩ 100 1000 = some ⟨(rdP ⟨#[102, 110, 32, 109, 97, 105, 110, 40, 41, 32, 123, 32, 108, 101, 116, 32, 120, 32, 61, 32, 49, 59, 32, 120, 32, 61, 32, 120, 59, 32, 125]⟩ 100).1, [⟨1, [0, 0, 0], []⟩], 0, 0⟩ := by kernel_rfl
theorem aw1_len : (begP ⟨#[102, 110, 32, 109, 97, 105, 110, 40, 41, 32, 123, 32, 120, 32, 61, 32, 49, 59, 32, 125]⟩).ts.length < 100 := by have h : (begP ⟨#[102, 110, 32, 109, 97, 105, 110, 40, 41, 32, 123, 32, 120, 32, 61, 32, 49, 59, 32, 125]⟩).ts.length = 10 := (by kernel_rfl); omega
theorem aw2_len : (begP ⟨#[102, 110, 32, 109, 97, 105, 110, 40, 41, 32, 123, 32, 108, 101, 116, 32, 120, 32, 61, 32, 49, 59, 32, 120, 32, 61, 32, 120, 59, 32, 125]⟩).ts.length < 100 := by have h : (begP ⟨#[102, 110, 32, 109, 97, 105, 110, 40, 41, 32, 123, 32, 108, 101, 116, 32, 120, 32, 61, 32, 49, 59, 32, 120, 32, 61, 32, 120, 59, 32, 125]⟩).ts.length = 15 := (by kernel_rfl); omega

theorem sc_at {w : World} {F : Nat → Prop} : ∀ {ps : List PSc} {xs : List Value} {j : Nat} {p : PSc}, RowSc w F ps xs → ps[j]? = some p → ∃ sa sc ca cc, p.sl.length ≤ sc ∧ RepI w F sa p.sl ∧ p.cl.length ≤ cc ∧ RepI w F ca p.cl ∧ xs[j * 3]? = some (.int .i64 p.lc) ∧ xs[j * 3 + 1]? = some (.slice sa p.sl.length sc) ∧ xs[j * 3 + 2]? = some (.slice ca p.cl.length cc) := by
  intro ps
  induction ps with
  | nil => intro xs j p _ h; simp at h
  | cons q ps ih =>
    intro xs j p hr h
    obtain ⟨sa, sc, ca, cc, rest, rfl, h1, h2, h3, h4, hr⟩ := hr
    cases j with
    | zero =>
      obtain rfl : q = p := by simpa using h
      exact ⟨sa, sc, ca, cc, h1, h2, h3, h4, rfl, rfl, rfl⟩
    | succ j =>
      obtain ⟨sa', sc', ca', cc', k1, k2, k3, k4, k5, k6, k7⟩ := ih hr (by simpa using h)
      have e : ∀ i, ([Value.int .i64 q.lc, .slice sa q.sl.length sc, .slice ca q.cl.length cc] ++ rest)[(j + 1) * 3 + i]? = rest[j * 3 + i]? := fun i => by
        rw [List.getElem?_append_right (by simp; omega)]
        congr 1
        simp
        omega
      exact ⟨sa', sc', ca', cc', k1, k2, k3, k4, (e 0).trans k5, (e 1).trans k6, (e 2).trans k7⟩
theorem sc_first {w : World} {F : Nat → Prop} {p : PSc} {ps : List PSc} {a : Option Addr} (h : RepSc w F (p :: ps) a) : ∃ b sa sc ca cc, a = some ⟨b, 0, none⟩ ∧ w.cell? ⟨b, 0, none⟩ = some (.int .i64 p.lc) ∧ w.cell? ⟨b, 1, none⟩ = some (.slice sa p.sl.length sc) ∧ w.cell? ⟨b, 2, none⟩ = some (.slice ca p.cl.length cc) ∧ p.sl.length ≤ sc ∧ RepI w F sa p.sl := by
  rcases h with h | ⟨b, xs, rfl, hb, hx, hc⟩
  · cases h
  · obtain ⟨sa, sc, ca, cc, h1, h2, h3, h4, k0, k1, k2⟩ := sc_at hx (j := 0) rfl
    exact ⟨b, sa, sc, ca, cc, rfl, hc _ _ k0, hc _ _ k1, hc _ _ k2, h1, h2⟩

set_option maxHeartbeats 1000000 in
theorem awake_w (w : World) (he : Er w) (hO : Opx w) (hT : Tbl w) : Calls Tryz.prog 5 #[] w fun e w' => e = .returned (.bool true) ∧ Ext w w' := by
  have H1 := hide (source_w ⟨#[102, 110, 32, 109, 97, 105, 110, 40, 41, 32, 123, 32, 120, 32, 61, 32, 49, 59, 32, 125]⟩ 100 1000 w _ he hO hT (by decide) aw1_len (by decide) (by decide) aw1_src)
  have H2 := hide (fun (W : World) (x : Ext w W) => source_w ⟨#[102, 110, 32, 109, 97, 105, 110, 40, 41, 32, 123, 32, 108, 101, 116, 32, 120, 32, 61, 32, 49, 59, 32, 120, 32, 61, 32, 120, 59, 32, 125]⟩ 100 1000 W _ (he.on x) (hO.ext x) (hT.ext x) (by decide) aw2_len (by decide) (by decide) aw2_src)
  have H3 := hide (fun (W : World) (x : Ext w W) => builtin_w ⟨#[99, 120]⟩ W (hT.ext x))
  replace H3 : Hd (∀ (W : World), Ext w W → Calls Tryz.prog 8 #[.string ⟨#[99, 120]⟩] W fun e w' => e = .returned (.tuple #[.int .i64 14, .int .i64 2, .bool true]) ∧ w' = W) := H3
  generalize (rdP ⟨#[102, 110, 32, 109, 97, 105, 110, 40, 41, 32, 123, 32, 108, 101, 116, 32, 120, 32, 61, 32, 49, 59, 32, 120, 32, 61, 32, 120, 59, 32, 125]⟩ 100).1 = fs2 at *
  clear he hO hT
  go_enter Tryz.func5, Tryz.ntmps5
  go_wp2_with (first
    | (have G := unhide X2; clear G; go_at_call 8; refine Calls.mono (unhide H3 _ (unhide X2)) ?_; rintro e w3 ⟨rfl, hw⟩; obtain rfl := hw.symm)
    | (have G := unhide X1; clear G; go_at_call 4; refine Calls.mono (unhide H2 _ (unhide X1)) ?_; rintro e w2 ⟨hX, a2, cap2, b2, cap3, rfl, _, _, hc3, hr⟩; have X2 := hide ((unhide X1).trans hX); obtain ⟨bb, sa, sc, ca, cc, rfl, f0, f1, f2, _, _⟩ := sc_first hr; have f0 : w2.cell? ⟨bb, 0, none⟩ = some (.int .i64 1) := f0; have f1 : w2.cell? ⟨bb, 1, none⟩ = some (.slice sa 3 sc) := f1; clear hX hr)
    | (go_at_call 4; refine Calls.mono (unhide H1) ?_; rintro e w1 ⟨hX, a1, cap1, b1, capb, rfl, _⟩; have X1 := hide hX; clear hX))
  go_ret
  exact ⟨rfl, unhide X2⟩

end Go.Proofs.YtjeledllejlpcaaGreatDoor
