/- A text's functions, and what their names mean. -/
import Derived.Test.YtlgdjeiendmniaaGreatDoorZg30
set_option linter.unusedSimpArgs false
set_option linter.unusedVariables false
set_option maxRecDepth 10000

namespace Go.Proofs.YtlgdjeiendmniaaGreatDoor
open Go.RowKit Go.Maps

/-- What Source tells: functions, what their names mean, the place, the error; none: it did not come to its end so soon. -/
structure PSrc where
  fs : List PFn
  sc : List PSc
  pl : Int
  e : Int
def srcQ (q : List PFn × PS) (f2 : Nat) : Option PSrc := if q.2.e ≠ 0 then some ⟨[], [], q.2.pl, q.2.e⟩ else if tooP q.1 then some ⟨[], [], 0, 65⟩ else match checkP q.1 f2 with
  | none => none
  | some (l, e) => if e ≠ 0 then some ⟨[], [], 0, e⟩ else some ⟨q.1, l, 0, 0⟩
def srcP (s : ByteArray) (f f2 : Nat) : Option PSrc := srcQ (rdP s f) f2

def SrcIs (r : PSrc) (w : World) (e : Ending) (w' : World) : Prop :=
  Ext w w' ∧ ∃ a cap b cap2, e = .returned (.tuple #[.slice a r.fs.length cap, .slice b r.sc.length cap2, .int .i64 r.pl, .int .i64 r.e]) ∧ r.fs.length ≤ cap ∧ RepFL w' (Fr w.heap.size w'.heap.size) r.fs a ∧ r.sc.length ≤ cap2 ∧ RepSc w' (Fr w.heap.size w'.heap.size) r.sc b

set_option maxHeartbeats 1000000 in
theorem source_of (s : ByteArray) (f f2 : Nat) (w : World) (r : PSrc) (hT : Tbl w) (hPg : Calls Tryz.prog 13 #[.string s] w (ProgOf (rdP s f) w)) (hf : (begP s).ts.length < f) (hf2 : f ≤ 100000) (hf3 : f2 ≤ 7000000) (hq : srcP s f f2 = some r) :
    Calls Tryz.prog 8 #[.string s] w (SrcIs r w) := by
  have HPg := hide hPg
  have hlen : (rdP s f).1.length ≤ 100001 := by
    have := funs_len s.size (stsP s.size f f).2.1 f (blkIs_le s.size f) f [] (begP s)
    have h2 : (rdP s f).1.length ≤ 0 + (begP s).ts.length := this
    omega
  have HT := hide hT
  unfold srcP at hq
  generalize rdP s f = q at *
  obtain ⟨fs, ⟨ts, op, pl, er⟩⟩ := q
  unfold srcQ at hq
  simp only at hq hlen
  clear hPg hT hf
  by_cases h0 : er = 0
  · rw [if_neg (by simp [h0])] at hq
    cases ht : tooP fs
    · rw [ht, if_neg (by decide)] at hq
      cases hc : checkP fs f2 with
      | none => rw [hc] at hq; cases hq
      | some R =>
      rw [hc] at hq
      obtain ⟨l, ec⟩ := R
      simp only at hq
      have HP2 : Hd (Calls Tryz.prog 13 #[.string s] w fun e w' => Ext w w' ∧ ∃ a cap, e = .returned (.tuple #[.slice a fs.length cap, .int .i64 0, .int .i64 0]) ∧ fs.length ≤ cap ∧ RepFL w' (Fr w.heap.size w'.heap.size) fs a) := (unhide HPg).mono (by
        rintro e w' ⟨hX, (⟨h1, _⟩ | ⟨_, h1, _⟩ | ⟨_, _, a, cap, h2, h3, h4⟩)⟩
        · exact absurd h0 h1
        · exact absurd (ht.symm.trans h1) (by decide)
        · exact ⟨hX, a, cap, h2, h3, h4⟩)
      unfold checkP at hc
      cases hsm : fs.all (fun p => small p.nm) with
      | false => rw [hsm] at hc; cases hc
      | true =>
      rw [hsm, if_pos rfl] at hc
      have hps : ∀ p ∈ fs, p.ps.length ≤ 1000000 := fun p hp => by
        unfold tooP at ht
        rw [Bool.or_eq_false_iff] at ht
        have := List.any_eq_false.1 ht.2 p hp
        simp at this
        omega
      have HCk := hide (fun (w1 : World) (hX : Ext w w1) (a : Option Addr) (cap : Nat) (h1 : fs.length ≤ cap) (h2 : RepFL w1 (Fr w.heap.size w1.heap.size) fs a) => check_w fs a cap f2 w1 (l, ec) (h2.to (fun b hb => ⟨hb.2, rfl⟩)) h1 hlen ((unhide HT).ext hX) (fun p hp => List.all_eq_true.1 hsm p hp) hps hf3 hc)
      clear hc hsm hps HPg HT
      by_cases h1 : ec = 0
      · rw [if_neg (by simp [h1])] at hq
        injection hq with hq
        subst h1 hq
        go_enter Tryz.func8, Tryz.ntmps8
        go_wp2_with (first
          | (go_at_call 13; refine Calls.mono (unhide HP2) ?_; rintro e w1 ⟨hX, a, cap, rfl, hcap, hr⟩; have X1 := hide hX; have R1 := hide hr; clear hX hr)
          | (go_at_call 14; refine Calls.mono (unhide HCk w1 (unhide X1) a cap hcap (unhide R1)) ?_; rintro e w2 ⟨hX, b, cap2, rfl, hcap2, hr⟩; have X2 := hide hX; have R2 := hide hr; clear hX hr))
        exact bodyPost_ret (v := .tuple #[.slice a fs.length cap, .slice b l.length cap2, .int .i64 0, .int .i64 0]) (by simp [results, Tryz.results8]) rfl ⟨(unhide X1).trans (unhide X2), a, cap, b, cap2, rfl, hcap, (unhide R1).to (fun k hk => ⟨⟨hk.1, Nat.lt_of_lt_of_le hk.2 (unhide X2).size⟩, (unhide X2).block k hk.2⟩), hcap2, (unhide R2).to (fun k hk => ⟨⟨Nat.le_trans (unhide X1).size hk.1, hk.2⟩, rfl⟩)⟩
      · rw [if_pos h1] at hq
        injection hq with hq
        subst hq
        have h2 : (ec == 0) = false := by simpa using h1
        have h3 : (ec != 0) = true := by simp [h1]
        clear h1
        go_enter Tryz.func8, Tryz.ntmps8
        go_wp2_with (first
          | (go_at_call 13; refine Calls.mono (unhide HP2) ?_; rintro e w1 ⟨hX, a, cap, rfl, hcap, hr⟩; have X1 := hide hX; have R1 := hide hr; clear hX hr)
          | (go_at_call 14; refine Calls.mono (unhide HCk w1 (unhide X1) a cap hcap (unhide R1)) ?_; rintro e w2 ⟨hX, b, cap2, rfl, hcap2, hr⟩; have X2 := hide hX; clear hX hr))
        exact bodyPost_ret (v := .tuple #[.slice none 0 0, .slice none 0 0, .int .i64 0, .int .i64 ec]) (by simp [results, Tryz.results8]) rfl ⟨(unhide X1).trans (unhide X2), none, 0, none, 0, rfl, Nat.le_refl _, Or.inl rfl, Nat.le_refl _, Or.inl rfl⟩
    · rw [ht, if_pos rfl] at hq
      injection hq with hq
      subst hq
      have HP2 : Hd (Calls Tryz.prog 13 #[.string s] w fun e w' => Ext w w' ∧ e = .returned (.tuple #[.slice none 0 0, .int .i64 0, .int .i64 65])) := (unhide HPg).mono (by
        rintro e w' ⟨hX, (⟨h1, _⟩ | ⟨_, _, h2⟩ | ⟨_, h1, _⟩)⟩
        · exact absurd h0 h1
        · exact ⟨hX, h2⟩
        · exact absurd (ht.symm.trans h1) (by decide))
      clear HPg HT
      go_enter Tryz.func8, Tryz.ntmps8
      go_wp2_with (go_at_call 13; refine Calls.mono (unhide HP2) ?_; rintro e w1 ⟨hX, rfl⟩; have X1 := hide hX; clear hX)
      exact bodyPost_ret (v := .tuple #[.slice none 0 0, .slice none 0 0, .int .i64 0, .int .i64 65]) (by simp [results, Tryz.results8]) rfl ⟨unhide X1, none, 0, none, 0, rfl, Nat.le_refl _, Or.inl rfl, Nat.le_refl _, Or.inl rfl⟩
  · rw [if_pos h0] at hq
    injection hq with hq
    subst hq
    have HP2 : Hd (Calls Tryz.prog 13 #[.string s] w fun e w' => Ext w w' ∧ e = .returned (.tuple #[.slice none 0 0, .int .i64 pl, .int .i64 er])) := (unhide HPg).mono (by
      rintro e w' ⟨hX, (⟨_, h2⟩ | ⟨h1, _⟩ | ⟨h1, _⟩)⟩
      · exact ⟨hX, h2⟩
      · exact absurd h1 h0
      · exact absurd h1 h0)
    have h2 : (er == 0) = false := by simpa using h0
    have h3 : (er != 0) = true := by simp [h0]
    clear HPg HT h0
    go_enter Tryz.func8, Tryz.ntmps8
    go_wp2_with (go_at_call 13; refine Calls.mono (unhide HP2) ?_; rintro e w1 ⟨hX, rfl⟩; have X1 := hide hX; clear hX)
    exact bodyPost_ret (v := .tuple #[.slice none 0 0, .slice none 0 0, .int .i64 pl, .int .i64 er]) (by simp [results, Tryz.results8]) rfl ⟨unhide X1, none, 0, none, 0, rfl, Nat.le_refl _, Or.inl rfl, Nat.le_refl _, Or.inl rfl⟩
theorem source_w (s : ByteArray) (f f2 : Nat) (w : World) (r : PSrc) (he : Er w) (hO : Opx w) (hT : Tbl w) (hmax : s.size ≤ 140737488355328) (hf : (begP s).ts.length < f) (hf2 : f ≤ 100000) (hf3 : f2 ≤ 7000000) (hq : srcP s f f2 = some r) :
    Calls Tryz.prog 8 #[.string s] w (SrcIs r w) := source_of s f f2 w r hT (program_any s f w he hO hmax hf hf2) hf hf2 hf3 hq

end Go.Proofs.YtlgdjeiendmniaaGreatDoor
