/- The document's going through names, as plain functions; it finds what scope finds. · Scope's way through a tree by a stack of its own finds what the document's way finds. · Any tree that was read: scope's way finds what the document's finds; functions; all of them. · What Check tells of functions that were read is what the document tells. -/
import Derived.Test.YtlgdjeiendmniaaGreatDoorZh1
import Derived.Test.YtlgdjeiendmniaaGreatDoorZg26
import Derived.Test.YtlgdjeiendmniaaGreatDoorZg39
set_option linter.unusedSimpArgs false
set_option linter.unusedVariables false
set_option maxRecDepth 10000

namespace Go.Proofs.YtlgdjeiendmniaaGreatDoor
open Go.RowKit Go.Maps

/-- What is known while the document goes through a function: the names that are visible, loops, locals, slots, calls, the first error. -/
structure DK where
  see : List (ByteArray × Int)
  lp : Int
  lc : Int
  sl : List Int
  cl : List Int
  e : Int
def fnd (see : List (ByteArray × Int)) (s : ByteArray) : Option Int := lkp see.reverse s
def DK.use (d : DK) (s : ByteArray) : DK := match fnd d.see s with
  | none => { d with e := 11 }
  | some v => { d with sl := d.sl ++ [v] }
def DK.letD (d : DK) (s : ByteArray) : DK := if d.e ≠ 0 then d else if (fnd d.see s).isSome then { d with e := 11 } else { d with see := d.see ++ [(s, d.lc)], sl := d.sl ++ [d.lc], lc := d.lc + 1 }
/-- The first function of that name. -/
def idxF : List PFn → ByteArray → Nat → Option Nat
  | [], _, _ => none
  | p :: r, s, i => if p.nm.data.toList == s.data.toList then some i else idxF r s (i + 1)
def DK.callD (d : DK) (fs : List PFn) (s : ByteArray) (n : Nat) : DK := if d.e ≠ 0 then d else match idxF fs s 0 with
  | some i => if ((fs[i]?).map (·.ps.length)).getD 0 ≠ n then { d with e := 12 } else { d with cl := d.cl ++ [(i : Int)] }
  | none => match biP s with
    | none => { d with e := 11 }
    | some (op, k) => if k ≠ (n : Int) then { d with e := 12 } else { d with cl := d.cl ++ [1000 + op] }
def dEnd (fs : List PFn) (k : Int) (s : ByteArray) (n mark : Nat) (d : DK) : DK :=
  if k = 1 then d.letD s else if k = 10 then { d with see := d.see.take mark } else if k = 20 then d.callD fs s n else d
def dBeg (k : Int) (s : ByteArray) (d : DK) : DK := if k = 2 ∨ k = 19 then d.use s else d
/-- Through a tree. -/
def dW (fs : List PFn) : Nat → PN → DK → DK
  | 0, _, d => d
  | f + 1, p, d => if d.e ≠ 0 then d else
    if p.k = 4 then (match p.l with
      | [c, b] => { dW fs f b { dW fs f c d with lp := (dW fs f c d).lp + 1 } with lp := (dW fs f b { dW fs f c d with lp := (dW fs f c d).lp + 1 }).lp - 1 }
      | _ => d)
    else if p.k = 5 ∨ p.k = 6 then (if d.lp = 0 then { d with e := 11 } else d)
    else dEnd fs p.k p.s p.l.length d.see.length (p.l.foldl (fun d x => dW fs f x d) (dBeg p.k p.s d))

theorem dW_bad (fs : List PFn) : ∀ (f : Nat) (p : PN) (d : DK), d.e ≠ 0 → dW fs f p d = d
  | 0, p, d, h => rfl
  | f + 1, p, d, h => by rw [dW, if_pos h]
theorem fold_bad (fs : List PFn) (f : Nat) : ∀ (l : List PN) (d : DK), d.e ≠ 0 → l.foldl (fun d x => dW fs f x d) d = d
  | [], d, h => rfl
  | x :: l, d, h => by rw [List.foldl_cons, dW_bad fs f x d h]; exact fold_bad fs f l d h
theorem dEnd_e {fs : List PFn} {k : Int} {s : ByteArray} {n mark : Nat} {d : DK} (h : d.e ≠ 0) : (dEnd fs k s n mark d).e = d.e := by
  unfold dEnd
  split
  · unfold DK.letD; rw [if_pos h]
  split
  · rfl
  split
  · unfold DK.callD; rw [if_pos h]
  · rfl

theorem lkp_c (s s' : ByteArray) (v : Int) (r : List (ByteArray × Int)) : lkp ((s', v) :: r) s = if s'.data.toList == s.data.toList then some v else lkp r s := by
  unfold lkp
  rw [List.find?_cons]
  cases h : (s'.data.toList == s.data.toList) <;> simp [h]
theorem nums_idx : ∀ (l : List PFn) (i : Nat) (nm0 nm : List (ByteArray × Int)), nums l i nm0 = some nm → ∀ s, lkp nm s = match lkp nm0 s with
    | some v => some v
    | none => (idxF l s i).map (fun j => (j : Int))
  | [], i, nm0, nm, h, s => by
    rw [nums] at h
    injection h with h
    subst h
    cases lkp nm0 s <;> rfl
  | p :: r, i, nm0, nm, h, s => by
    rw [nums] at h
    split at h
    · cases h
    · rename_i hb
      have hb1 : (lkp nm0 p.nm).isSome = false := by
        cases hx : (lkp nm0 p.nm).isSome with
        | false => rfl
        | true => exact absurd (by rw [hx]; rfl) hb
      have ih := nums_idx r (i + 1) _ nm h s
      rw [ih, lkp_c, idxF]
      cases he : (p.nm.data.toList == s.data.toList)
      · simp
      · have hs : lkp nm0 s = none := by
          have hb2 : lkp nm0 p.nm = none := by simpa using hb1
          unfold lkp at hb2 ⊢
          rw [← (beq_iff_eq.1 he)]
          exact hb2
        rw [hs]
        simp
theorem nums_bi : ∀ (l : List PFn) (i : Nat) (nm0 nm : List (ByteArray × Int)), nums l i nm0 = some nm → ∀ s j, idxF l s i = some j → biP s = none
  | [], i, nm0, nm, h, s, j, hj => by cases hj
  | p :: r, i, nm0, nm, h, s, j, hj => by
    rw [nums] at h
    split at h
    · cases h
    · rename_i hb
      rw [idxF] at hj
      split at hj
      · rename_i he
        have hb1 : (biP p.nm).isSome = false := by
          cases hx : (biP p.nm).isSome with
          | false => rfl
          | true => exact absurd (by rw [hx]; simp) hb
        have hb2 : biP p.nm = none := by simpa using hb1
        unfold biP at hb2 ⊢
        rw [← (beq_iff_eq.1 he)]
        exact hb2
      · exact nums_bi r (i + 1) _ nm h s j hj
theorem biP_op {s : ByteArray} {op n : Int} (h : biP s = some (op, n)) : 0 ≤ op ∧ op ≤ 20 := by
  unfold biP at h
  cases hf : biL.find? (fun p => p.1.data.toList == s.data.toList) with
  | none => rw [hf] at h; cases h
  | some q =>
    rw [hf] at h
    have hm := List.mem_of_find?_eq_some hf
    have hall : biL.all (fun q => decide (0 ≤ q.2.1) && decide (q.2.1 ≤ 20)) = true := by decide +kernel
    have h2 := List.all_eq_true.1 hall q hm
    injection h with h
    have h' : q.2 = (op, n) := h
    rw [h'] at h2
    simpa using h2

/-- What scope knows and what the document knows, as long as nothing is wrong; dl: how many loops scope counts ahead of the document. -/
structure RK (st : WK) (d : DK) (dl : Int) : Prop where
  e : st.e = 0
  lm : st.lm = d.see.reverse
  od : st.od = d.see.map (·.1)
  lp : st.lp = d.lp + dl
  lc : st.lc = d.lc
  sl : st.sl = d.sl
  cl : st.cl = d.cl
  dis : (d.see.map (fun p => p.1.data.toList)).Nodup
  lc0 : 0 ≤ d.lc
  sp0 : 0 ≤ st.sp

theorem drp_all : ∀ (b a : List (ByteArray × Int)), ((a ++ b).map (fun p => p.1.data.toList)).Nodup → (b.map (·.1)).foldl drp (a ++ b).reverse = a.reverse
  | [], a, _ => by simp
  | x :: b, a, h => by
    have h1 : ∀ y ∈ a ++ b, (!(y.1.data.toList == x.1.data.toList)) = true := by
      intro y hy
      rw [List.map_append, List.map_cons] at h
      have hn := List.nodup_append.1 h
      have hc := List.nodup_cons.1 hn.2.1
      simp only [Bool.not_eq_true', beq_eq_false_iff_ne, ne_eq]
      intro e
      rcases List.mem_append.1 hy with hy | hy
      · exact hn.2.2 _ (List.mem_map_of_mem hy) _ (List.mem_cons_self) e
      · exact hc.1 (by rw [← e]; exact List.mem_map_of_mem hy)
    have h2 : drp (a ++ x :: b).reverse x.1 = (a ++ b).reverse := by
      unfold drp
      rw [List.filter_reverse, List.filter_append, List.filter_cons_of_neg (by simp), List.filter_eq_self.2 (fun y hy => h1 y (List.mem_append_left _ hy)), List.filter_eq_self.2 (fun y hy => h1 y (List.mem_append_right _ hy))]
    rw [List.map_cons, List.foldl_cons, h2]
    refine drp_all b a ?_
    rw [List.map_append, List.map_cons] at h
    rw [List.map_append]
    have hn := List.nodup_append.1 h
    exact List.nodup_append.2 ⟨hn.1, (List.nodup_cons.1 hn.2.1).2, fun u hu v hv => hn.2.2 u hu v (List.mem_cons_of_mem _ hv)⟩

/-- Through a tree, by scope's stack: what comes of it, told by what the document finds. -/
def Sim (nm : List (ByteArray × Int)) (fs : List PFn) (c : Nat) (stk rest : List (PN × Nat)) (st : WK) (d d' : DK) (dl : Int) : Prop :=
  (d'.e = 0 → ∃ st', RK st' d' dl ∧ st'.bk = st.bk ∧ st'.sp ≤ st.sp + 2 * c ∧ d'.lp = d.lp ∧ d.see <+: d'.see ∧ ∀ k, thr nm fs (k + 2 * c) stk st = thr nm fs k rest st') ∧
  (d'.e ≠ 0 → ∃ st', st'.e = d'.e ∧ ∀ k, thr nm fs (k + 1 + 2 * c) stk st = some st')

theorem step_ok {st : WK} {n : Nat} (hn : n ≤ 4000) (h0 : 0 ≤ st.sp) (h : st.sp + 2 ≤ 4194304) : ∃ x : Int, st.step n = { st with sp := x } ∧ st.sp ≤ x ∧ x ≤ st.sp + 2 := by
  have h1 : 0 ≤ (n : Int) / 4000 ∧ (n : Int) / 4000 ≤ 1 := by omega
  refine ⟨wrap64 (st.sp + (1 + (n : Int) / 4000)), ?_, ?_, ?_⟩
  · unfold WK.step WK.stepTo
    rw [if_neg]
    unfold wrap64
    omega
  · unfold wrap64; omega
  · unfold wrap64; omega

theorem thr_bad (nm : List (ByteArray × Int)) (fs : List PFn) (f : Nat) (stk : List (PN × Nat)) (st : WK) (h : st.e ≠ 0) : thr nm fs (f + 1) stk st = some st := by
  cases stk with
  | nil => rw [thr]
  | cons q r => obtain ⟨p, d⟩ := q; rw [thr, if_pos h]

end Go.Proofs.YtlgdjeiendmniaaGreatDoor

namespace Go.Proofs.YtlgdjeiendmniaaGreatDoor
open Go.RowKit Go.Maps

variable {nm : List (ByteArray × Int)} {fs : List PFn}

theorem pre_take {α : Type} {a b : List α} (h : a <+: b) : b.take a.length = a := by
  obtain ⟨t, rfl⟩ := h
  simp

/-- Behind its parts: what is done at a node's end. -/
theorem fin_sim (hnm : nums fs 0 [] = some nm) {p : PN} {st : WK} {d0 d : DK} {dl : Int} (h : RK st d dl) (hb : st.bk = if p.k = 10 then (st.bk.dropLast ++ [(d0.see.length : Int)]) else st.bk) (hp : d0.see <+: d.see) (h4 : p.k ≠ 4) (hc : d.lc ≤ 100000) (he : d.e = 0) :
    ((dEnd fs p.k p.s p.l.length d0.see.length d).e = 0 → ∃ st', st.fin nm fs p = some st' ∧ RK st' (dEnd fs p.k p.s p.l.length d0.see.length d) dl ∧ st'.bk = (if p.k = 10 then st.bk.dropLast else st.bk) ∧ st'.sp = st.sp ∧ (dEnd fs p.k p.s p.l.length d0.see.length d).lp = d.lp ∧ d0.see <+: (dEnd fs p.k p.s p.l.length d0.see.length d).see) ∧
    ((dEnd fs p.k p.s p.l.length d0.see.length d).e ≠ 0 → ∃ st', st.fin nm fs p = some st' ∧ st'.e = (dEnd fs p.k p.s p.l.length d0.see.length d).e) := by
  have he0 := h.e
  unfold dEnd WK.fin
  by_cases h1 : p.k = 1
  · rw [if_pos h1, if_pos h1, if_neg (show ¬ p.k = 10 by rw [h1]; decide)]
    unfold DK.letD WK.letW WK.declare
    rw [if_neg (by simp [he])]
    have hl : lkp st.lm p.s = fnd d.see p.s := by rw [h.lm]; rfl
    have hl2 : lkp ({ st with sl := st.sl ++ [st.lc] } : WK).lm p.s = fnd d.see p.s := hl
    rw [hl2]
    cases hf : (fnd d.see p.s).isSome
    · rw [if_neg (by decide), if_neg (by decide)]
      refine ⟨fun _ => ⟨_, rfl, ⟨he0, ?_, ?_, h.lp, ?_, ?_, h.cl, ?_, ?_, h.sp0⟩, rfl, rfl, rfl, ?_⟩, fun e => absurd he e⟩
      · show (p.s, st.lc) :: st.lm = _
        rw [h.lm, h.lc]; simp
      · show st.od ++ [p.s] = _
        rw [h.od]; simp
      · show wrap64 (st.lc + 1) = d.lc + 1
        have := h.lc0
        rw [h.lc]; unfold wrap64; omega
      · show st.sl ++ [st.lc] = _
        rw [h.sl, h.lc]
      · have hn := h.dis
        show ((d.see ++ [(p.s, d.lc)]).map (fun p => p.1.data.toList)).Nodup
        rw [List.map_append]
        refine List.nodup_append.2 ⟨hn, by simp, fun u hu v hv e => ?_⟩
        simp at hv
        subst hv
        obtain ⟨y, hy, rfl⟩ := List.mem_map.1 hu
        have hfn : fnd d.see p.s = none := by simpa using hf
        unfold fnd lkp at hfn
        have hfn2 : d.see.reverse.find? (fun q => q.1.data.toList == p.s.data.toList) = none := by simpa using hfn
        have h9 := List.find?_eq_none.1 hfn2 y (by simpa using hy)
        exact h9 (by simpa using e)
      · show 0 ≤ d.lc + 1
        have := h.lc0; omega
      · exact hp.trans (List.prefix_append _ _)
    · rw [if_pos rfl, if_pos rfl]
      refine ⟨fun e => absurd e (show ¬ (11 : Int) = 0 by decide), fun _ => ⟨_, rfl, ?_⟩⟩
      show (WK.up (WK.fail { st with sl := st.sl ++ [st.lc] } 11)).e = 11
      unfold WK.fail WK.up
      rw [if_pos he0]
  rw [if_neg h1, if_neg h1]
  by_cases h10 : p.k = 10
  · rw [if_pos h10, if_pos h10]
    rw [if_pos h10] at hb
    unfold WK.close
    have hlast : st.bk.getLast? = some (d0.see.length : Int) := by rw [hb]; simp
    have hlen : d0.see.length ≤ st.od.length := by rw [h.od, List.length_map]; exact hp.length_le
    rw [hlast]
    simp only
    rw [if_pos ⟨by omega, by simpa using hlen⟩, if_pos h10]
    obtain ⟨t, ht⟩ := hp
    have ht2 : d.see.take d0.see.length = d0.see := by rw [← ht]; simp
    refine ⟨fun _ => ⟨_, rfl, ⟨he0, ?_, ?_, h.lp, h.lc, h.sl, h.cl, ?_, h.lc0, h.sp0⟩, by first | rfl | trivial, by first | rfl | trivial, by first | rfl | trivial, ?_⟩, fun e => absurd he e⟩
    · show (st.od.drop (d0.see.length : Int).toNat).foldl drp st.lm = (d.see.take d0.see.length).reverse
      rw [Int.toNat_natCast, h.od, h.lm, ht2, ← ht, List.map_append, List.drop_left' (by simp)]
      exact drp_all t d0.see (by rw [ht]; exact h.dis)
    · show st.od.take (d0.see.length : Int).toNat = (d.see.take d0.see.length).map (·.1)
      rw [Int.toNat_natCast, h.od, List.map_take]
    · show ((d.see.take d0.see.length).map (fun p => p.1.data.toList)).Nodup
      rw [List.map_take]
      exact List.Nodup.sublist (List.take_sublist _ _) h.dis
    · show d0.see <+: d.see.take d0.see.length
      rw [ht2]
      exact List.prefix_refl _
  rw [if_neg h10, if_neg h10, if_neg h4, if_neg h10]
  by_cases h20 : p.k = 20
  · rw [if_pos h20, if_pos h20]
    unfold DK.callD WK.call calP
    rw [if_neg (by simp [he])]
    have hi := nums_idx fs 0 [] nm hnm p.s
    have hl0 : lkp [] p.s = none := rfl
    rw [hl0] at hi
    simp only at hi
    cases hx : idxF fs p.s 0 with
    | some i =>
      rw [hx] at hi
      rw [nums_bi fs 0 [] nm hnm p.s i hx]
      have hi2 : lkp nm p.s = some (i : Int) := hi
      simp only [hi2, Int.toNat_natCast]
      by_cases hn : ((fs[i]?).map (·.ps.length)).getD 0 = p.l.length
      · rw [if_neg (by simp [hn]), if_pos (by exact_mod_cast hn)]
        exact ⟨fun _ => ⟨_, rfl, ⟨he0, h.lm, h.od, h.lp, h.lc, h.sl, by show st.cl ++ [(i : Int)] = _; rw [h.cl], h.dis, h.lc0, h.sp0⟩, rfl, rfl, rfl, hp⟩, fun e => absurd he e⟩
      · rw [if_pos (by simpa using hn), if_neg (by exact_mod_cast hn)]
        refine ⟨fun e => absurd e (show ¬ (12 : Int) = 0 by decide), fun _ => ⟨_, rfl, ?_⟩⟩
        unfold WK.fail; rw [if_pos he0]
    | none =>
      rw [hx] at hi
      have hi2 : lkp nm p.s = none := hi
      cases hbi : biP p.s with
      | none =>
        simp only [hi2]
        refine ⟨fun e => absurd e (show ¬ (11 : Int) = 0 by decide), fun _ => ⟨_, rfl, ?_⟩⟩
        unfold WK.fail; rw [if_pos he0]
      | some q =>
        obtain ⟨op, k⟩ := q
        have hop := biP_op hbi
        simp only
        by_cases hk : k = (p.l.length : Int)
        · rw [if_neg (by simp [hk]), if_pos hk]
          refine ⟨fun _ => ⟨_, rfl, ⟨he0, h.lm, h.od, h.lp, h.lc, h.sl, ?_, h.dis, h.lc0, h.sp0⟩, rfl, rfl, rfl, hp⟩, fun e => absurd he e⟩
          show st.cl ++ [wrap64 (op + 1000)] = d.cl ++ [1000 + op]
          rw [h.cl]
          congr 2
          unfold wrap64
          omega
        · rw [if_pos (by simpa using hk), if_neg hk]
          refine ⟨fun e => absurd e (show ¬ (12 : Int) = 0 by decide), fun _ => ⟨_, rfl, ?_⟩⟩
          unfold WK.fail; rw [if_pos he0]
  · rw [if_neg h20, if_neg h20]
    exact ⟨fun _ => ⟨_, rfl, h, rfl, rfl, rfl, hp⟩, fun e => absurd he e⟩

theorem small_of {s : ByteArray} (h : s.size ≤ 4000) : small s = true := by unfold small; simp; omega

/-- What is asked of a tree: from a state where nothing is wrong. -/
def SimOf (nm : List (ByteArray × Int)) (fs : List PFn) (F : Nat) (x : PN) (dl : Int) : Prop :=
  ∀ (st : WK) (d : DK), RK st d dl → d.e = 0 → 0 ≤ d.lp → 0 ≤ dl → d.lp + dl + nsz x ≤ 100000 → d.lc + nsz x ≤ 100000 → st.sp + 2 * nsz x ≤ 4194304 →
    (dW fs F x d).lc ≤ d.lc + nsz x ∧
    ((dW fs F x d).e = 0 → ∃ st', RK st' (dW fs F x d) dl ∧ st'.bk = st.bk ∧ st'.sp ≤ st.sp + 2 * nsz x ∧ (dW fs F x d).lp = d.lp ∧ d.see <+: (dW fs F x d).see ∧ ∀ r k, thr nm fs (k + 2 * nsz x) ((x, 0) :: r) (st.bgn x) = thr nm fs (k + 1) r st') ∧
    ((dW fs F x d).e ≠ 0 → ∃ st', st'.e = (dW fs F x d).e ∧ ∀ r k, thr nm fs (k + 2 * nsz x) ((x, 0) :: r) (st.bgn x) = some st')

/-- A row of parts, from the i-th on. -/
theorem list_sim {F : Nat} {p : PN} {dl : Int} (hdl : 0 ≤ dl) (hsm : ∀ x ∈ p.l, small x.s = true) (hone : ∀ x ∈ p.l, SimOf nm fs F x dl) : ∀ (l : List PN) (i : Nat), p.l.drop i = l → i ≤ p.l.length → ∀ (st : WK) (d : DK), RK st d dl → d.e = 0 → 0 ≤ d.lp → d.lp + dl + nszL l ≤ 100000 → d.lc + nszL l ≤ 100000 → st.sp + 2 * nszL l ≤ 4194304 →
    (l.foldl (fun d x => dW fs F x d) d).lc ≤ d.lc + nszL l ∧
    ((l.foldl (fun d x => dW fs F x d) d).e = 0 → ∃ st', RK st' (l.foldl (fun d x => dW fs F x d) d) dl ∧ st'.bk = st.bk ∧ st'.sp ≤ st.sp + 2 * nszL l ∧ (l.foldl (fun d x => dW fs F x d) d).lp = d.lp ∧ d.see <+: (l.foldl (fun d x => dW fs F x d) d).see ∧ ∀ r k, thr nm fs (k + 1 + 2 * nszL l) ((p, i) :: r) st = thr nm fs (k + 1) ((p, p.l.length) :: r) st') ∧
    ((l.foldl (fun d x => dW fs F x d) d).e ≠ 0 → ∃ st', st'.e = (l.foldl (fun d x => dW fs F x d) d).e ∧ ∀ r k, thr nm fs (k + 1 + 2 * nszL l) ((p, i) :: r) st = some st')
  | [], i, hd, hi, st, d, h, he, hl0, hlp, hlc, hsp => by
    have hlen : i = p.l.length := by
      have := List.drop_eq_nil_iff.1 hd
      omega
    subst hlen
    refine ⟨by show d.lc ≤ d.lc + _; omega, fun _ => ⟨st, h, rfl, by omega, rfl, List.prefix_refl _, fun r k => ?_⟩, fun e => absurd he e⟩
    rw [nszL]
  | x :: l, i, hd, hi, st, d, h, he, hl0, hlp, hlc, hsp => by
    rw [nszL] at hlp hlc hsp
    have hx : p.l[i]? = some x := by
      have h9 : (p.l.drop i)[0]? = some x := by rw [hd]; rfl
      rw [List.getElem?_drop] at h9
      simpa using h9
    have hmem : x ∈ p.l := List.mem_of_getElem? hx
    have hilt : i < p.l.length := (List.getElem?_eq_some_iff.1 hx).1
    have hd2 : p.l.drop (i + 1) = l := by
      have h9 : (p.l.drop i).drop 1 = l := by rw [hd]; rfl
      rw [List.drop_drop] at h9
      exact h9
    obtain ⟨c1, s1, f1⟩ := hone x hmem st d h he hl0 hdl (by omega) (by omega) (by omega)
    have hpos := nsz_pos x
    rw [List.foldl_cons, nszL]
    have hpush : ∀ r K, thr nm fs (K + 1) ((p, i) :: r) st = thr nm fs K ((x, 0) :: (p, i + 1) :: r) (st.bgn x) := fun r K => by
      rw [thr, if_neg (by simp [h.e]), if_neg (by omega), hx]
      simp only
      rw [if_pos (hsm x hmem)]
    by_cases e1 : (dW fs F x d).e = 0
    · obtain ⟨st1, r1, b1, p1, q1, w1, t1⟩ := s1 e1
      obtain ⟨c2, s2, f2⟩ := list_sim hdl hsm hone l (i + 1) hd2 (by omega) st1 (dW fs F x d) r1 e1 (by omega) (by omega) (by omega) (by omega)
      refine ⟨by omega, fun e2 => ?_, fun e2 => ?_⟩
      · obtain ⟨st2, r2, b2, p2, q2, w2, t2⟩ := s2 e2
        refine ⟨st2, r2, b2.trans b1, by omega, q2.trans q1, w1.trans w2, fun r k => ?_⟩
        rw [show k + 1 + 2 * (nsz x + nszL l) = (k + 2 * nszL l + 2 * nsz x) + 1 by omega, hpush, t1, show k + 2 * nszL l + 1 = k + 1 + 2 * nszL l by omega, t2]
      · obtain ⟨st2, r2, t2⟩ := f2 e2
        refine ⟨st2, r2, fun r k => ?_⟩
        rw [show k + 1 + 2 * (nsz x + nszL l) = (k + 2 * nszL l + 2 * nsz x) + 1 by omega, hpush, t1, show k + 2 * nszL l + 1 = k + 1 + 2 * nszL l by omega, t2]
    · have hb := fold_bad fs F l (dW fs F x d) e1
      rw [hb]
      obtain ⟨st1, r1, t1⟩ := f1 e1
      refine ⟨by omega, fun e2 => absurd e2 e1, fun _ => ⟨st1, r1, fun r k => ?_⟩⟩
      rw [show k + 1 + 2 * (nsz x + nszL l) = (k + 2 * nszL l + 2 * nsz x) + 1 by omega, hpush, t1]

end Go.Proofs.YtlgdjeiendmniaaGreatDoor

namespace Go.Proofs.YtlgdjeiendmniaaGreatDoor
open Go.RowKit Go.Maps

variable {nm : List (ByteArray × Int)} {fs : List PFn}

theorem sim_all (hnm : nums fs 0 [] = some nm) : ∀ (F : Nat) (p : PN) (dl : Int), nsz p ≤ F → gX p → (dl = 0 ∨ nX p) → SimOf nm fs F p dl := by
  intro F
  induction F with
  | zero => intro p dl h; have := nsz_pos p; omega
  | succ F ih =>
    intro p dl hF hg hd st d h he hl0 hdl hlp hlc hsp
    obtain ⟨hsz, hw4, hw5⟩ := hg.props
    have hp1 := nsz_pos p
    have hnp : nsz p = 1 + nszL p.l := by cases p; rw [nsz]
    obtain ⟨x, hst, hx1, hx2⟩ := step_ok (st := st) hsz h.sp0 (by omega)
    have h1 : RK { st with sp := x } d dl := ⟨h.e, h.lm, h.od, h.lp, h.lc, h.sl, h.cl, h.dis, h.lc0, by have := h.sp0; show 0 ≤ x; omega⟩
    have hone : ∀ y ∈ p.l, SimOf nm fs F y dl := fun y hy => ih y dl (by have := nszL_mem hy; omega) (hg.sub hy) (hd.imp id (fun hn => hn.sub hy))
    have hsm : ∀ y ∈ p.l, small y.s = true := fun y hy => small_of (hg.sub hy).props.1
    rw [dW, if_neg (by simp [he])]
    by_cases h4 : p.k = 4
    · obtain ⟨c, b, hl, hc⟩ := hw4 h4
      have hd0 : dl = 0 := hd.elim id (fun hn => absurd h4 hn.props.1)
      subst hd0
      have hb0 : st.bgn p = { st with sp := x, lp := wrap64 (st.lp + 1) } := by
        unfold WK.bgn
        rw [hst, if_neg (by rw [h4]; decide), if_neg (by rw [h4]; decide), if_pos h4]
      have hlpe := h.lp
      have hwl : wrap64 (st.lp + 1) = d.lp + 1 := by rw [hlpe]; unfold wrap64; omega
      rw [if_pos h4, hl]
      simp only
      have hnc : nszL p.l = nsz c + nsz b := by rw [hl, nszL, nszL, nszL]; omega
      have hpc := nsz_pos c
      have hpb := nsz_pos b
      rw [hnp, hnc] at hlp hlc hsp
      have hcm : c ∈ p.l := by rw [hl]; simp
      have hbm : b ∈ p.l := by rw [hl]; simp
      have rc : RK { st with sp := x, lp := wrap64 (st.lp + 1) } d 1 := ⟨h.e, h.lm, h.od, hwl, h.lc, h.sl, h.cl, h.dis, h.lc0, by have := h.sp0; show 0 ≤ x; omega⟩
      obtain ⟨c1, s1, f1⟩ := ih c 1 (by omega) (hg.sub hcm) (Or.inr hc) _ d rc he hl0 (by decide) (by omega) (by omega) (by show x + 2 * (nsz c : Int) ≤ _; omega)
      have hx0 : p.l[0]? = some c := by rw [hl]; rfl
      have hx1' : p.l[1]? = some b := by rw [hl]; rfl
      have hlen : p.l.length = 2 := by rw [hl]; rfl
      have hpush0 : ∀ r K, thr nm fs (K + 1) ((p, 0) :: r) { st with sp := x, lp := wrap64 (st.lp + 1) } = thr nm fs K ((c, 0) :: (p, 1) :: r) (WK.bgn { st with sp := x, lp := wrap64 (st.lp + 1) } c) := fun r K => by
        rw [thr, if_neg (by simp [h.e]), if_neg (by omega), hx0]
        simp only
        rw [if_pos (hsm c hcm)]
      rw [hb0, hnp, hnc]
      by_cases e1 : (dW fs F c d).e = 0
      · obtain ⟨st1, r1, b1, p1, q1, w1, t1⟩ := s1 e1
        have p1' : st1.sp ≤ x + 2 * (nsz c : Int) := p1
        obtain ⟨d1, hd1⟩ : ∃ d1, d1 = dW fs F c d := ⟨_, rfl⟩
        rw [← hd1] at r1 q1 w1 c1 e1 ⊢
        have r1b : RK st1 { d1 with lp := d1.lp + 1 } 0 := ⟨r1.e, r1.lm, r1.od, by show st1.lp = d1.lp + 1 + 0; rw [r1.lp]; omega, r1.lc, r1.sl, r1.cl, r1.dis, r1.lc0, r1.sp0⟩
        obtain ⟨c2, s2, f2⟩ := ih b 0 (by omega) (hg.sub hbm) (Or.inl rfl) st1 { d1 with lp := d1.lp + 1 } r1b e1 (by show 0 ≤ d1.lp + 1; omega) (by decide) (by show d1.lp + 1 + 0 + (nsz b : Int) ≤ _; omega) (by show d1.lc + (nsz b : Int) ≤ _; omega) (by omega)
        have c2' : (dW fs F b { d1 with lp := d1.lp + 1 }).lc ≤ d1.lc + nsz b := c2
        have hpush1 : ∀ r K, thr nm fs (K + 1) ((p, 1) :: r) st1 = thr nm fs K ((b, 0) :: (p, 2) :: r) (st1.bgn b) := fun r K => by
          rw [thr, if_neg (by simp [r1.e]), if_neg (by omega), hx1']
          simp only
          rw [if_pos (hsm b hbm)]
        refine ⟨by show (dW fs F b { d1 with lp := d1.lp + 1 }).lc ≤ _; omega, fun e2 => ?_, fun e2 => ?_⟩
        · obtain ⟨st2, r2, b2, p2, q2, w2, t2⟩ := s2 e2
          have q2' : (dW fs F b { d1 with lp := d1.lp + 1 }).lp = d1.lp + 1 := q2
          refine ⟨{ st2 with lp := wrap64 (st2.lp - 1) }, ⟨r2.e, r2.lm, r2.od, ?_, r2.lc, r2.sl, r2.cl, r2.dis, r2.lc0, r2.sp0⟩, b2.trans b1, by show st2.sp ≤ _; omega, ?_, w1.trans w2, fun r k => ?_⟩
          · show wrap64 (st2.lp - 1) = (dW fs F b { d1 with lp := d1.lp + 1 }).lp - 1 + 0
            rw [r2.lp, q2']; unfold wrap64; omega
          · show (dW fs F b { d1 with lp := d1.lp + 1 }).lp - 1 = d.lp
            rw [q2']; omega
          · rw [show k + 2 * (1 + (nsz c + nsz b)) = (k + 1 + 2 * nsz b + 2 * nsz c) + 1 by omega, hpush0, t1, hpush1, show k + 1 + 2 * nsz b = (k + 1) + 2 * nsz b by omega, t2]
            rw [thr, if_neg (by simp [r2.e]), if_pos hlen.symm]
            unfold WK.fin
            rw [if_neg (by rw [h4]; decide), if_neg (by rw [h4]; decide), if_pos h4]
        · obtain ⟨st2, r2, t2⟩ := f2 e2
          refine ⟨st2, r2, fun r k => ?_⟩
          rw [show k + 2 * (1 + (nsz c + nsz b)) = (k + 1 + 2 * nsz b + 2 * nsz c) + 1 by omega, hpush0, t1, hpush1, show k + 1 + 2 * nsz b = (k + 1) + 2 * nsz b by omega, t2]
      · obtain ⟨st1, r1, t1⟩ := f1 e1
        have hbb : dW fs F b { dW fs F c d with lp := (dW fs F c d).lp + 1 } = { dW fs F c d with lp := (dW fs F c d).lp + 1 } := dW_bad fs F b _ e1
        rw [hbb]
        refine ⟨by show (dW fs F c d).lc ≤ _; omega, fun e2 => absurd e2 e1, fun _ => ⟨st1, r1, fun r k => ?_⟩⟩
        rw [show k + 2 * (1 + (nsz c + nsz b)) = (k + 1 + 2 * nsz b + 2 * nsz c) + 1 by omega, hpush0, t1]
    rw [if_neg h4]
    by_cases h5 : p.k = 5 ∨ p.k = 6
    · have hl := hw5 h5
      have hd0 : dl = 0 := hd.elim id (fun hn => absurd h5 (fun e => e.elim hn.props.2.1 hn.props.2.2))
      subst hd0
      have hlpe := h.lp
      have hb0 : st.bgn p = WK.leave { st with sp := x } := by
        unfold WK.bgn
        rw [hst, if_neg (by rcases h5 with e | e <;> rw [e] <;> decide), if_neg (by rcases h5 with e | e <;> rw [e] <;> decide), if_neg h4, if_pos h5]
      rw [if_pos h5, hb0]
      unfold WK.leave
      by_cases hz : d.lp = 0
      · have hz2 : ({ st with sp := x } : WK).lp = 0 := by show st.lp = 0; rw [hlpe, hz]; rfl
        rw [if_pos hz, if_pos hz2]
        have hf : WK.fail { st with sp := x } 11 = { st with sp := x, e := 11 } := by unfold WK.fail; rw [if_pos h.e]
        rw [hf]
        refine ⟨by show d.lc ≤ _; omega, fun e => absurd e (show ¬ (11 : Int) = 0 by decide), fun _ => ⟨{ st with sp := x, e := 11 }, rfl, fun r k => ?_⟩⟩
        rw [show k + 2 * nsz p = (k + 2 * nsz p - 1) + 1 by omega]
        exact thr_bad _ _ _ _ _ (show ¬ (11 : Int) = 0 by decide)
      · have hz2 : ¬ ({ st with sp := x } : WK).lp = 0 := by show ¬ st.lp = 0; rw [hlpe]; omega
        rw [if_neg hz, if_neg hz2]
        refine ⟨by omega, fun _ => ⟨{ st with sp := x }, h1, rfl, by show x ≤ _; omega, rfl, List.prefix_refl _, fun r k => ?_⟩, fun e => absurd he e⟩
        rw [hnp, hl, nszL, show k + 2 * (1 + 0) = (k + 1) + 1 by omega]
        rw [thr, if_neg (by simp [h.e]), if_pos (by rw [hl]; rfl)]
        unfold WK.fin
        rw [if_neg (by rcases h5 with e | e <;> rw [e] <;> decide), if_neg (by rcases h5 with e | e <;> rw [e] <;> decide), if_neg h4, if_neg (by rcases h5 with e | e <;> rw [e] <;> decide)]
    rw [if_neg h5]
    -- what is done ahead of its parts
    have hbeg : ((dBeg p.k p.s d).e = 0 → RK (st.bgn p) (dBeg p.k p.s d) dl ∧ (st.bgn p).bk = (if p.k = 10 then st.bk ++ [(d.see.length : Int)] else st.bk) ∧ (st.bgn p).sp = x ∧ (dBeg p.k p.s d).see = d.see ∧ (dBeg p.k p.s d).lp = d.lp) ∧ (dBeg p.k p.s d).lc = d.lc ∧ ((dBeg p.k p.s d).e ≠ 0 → (st.bgn p).e = (dBeg p.k p.s d).e) := by
      unfold dBeg WK.bgn
      rw [hst]
      by_cases h2 : p.k = 2 ∨ p.k = 19
      · rw [if_pos h2, if_pos h2, if_neg (by rcases h2 with e | e <;> rw [e] <;> decide)]
        unfold DK.use WK.use
        have hl2 : lkp ({ st with sp := x } : WK).lm p.s = fnd d.see p.s := by show lkp st.lm p.s = _; rw [h.lm]; rfl
        rw [hl2]
        cases hf : fnd d.see p.s with
        | none =>
          refine ⟨fun e => absurd e (show ¬ (11 : Int) = 0 by decide), rfl, fun _ => ?_⟩
          show (WK.fail { st with sp := x } 11).e = 11
          unfold WK.fail; rw [if_pos h.e]
        | some v => exact ⟨fun _ => ⟨⟨h1.e, h1.lm, h1.od, h1.lp, h1.lc, by show st.sl ++ [v] = _; rw [h.sl], h1.cl, h1.dis, h1.lc0, h1.sp0⟩, rfl, rfl, rfl, rfl⟩, rfl, fun e => absurd he e⟩
      · rw [if_neg h2, if_neg h2]
        refine ⟨fun _ => ?_, rfl, fun e => absurd he e⟩
        by_cases h10 : p.k = 10
        · rw [if_pos h10, if_pos h10]
          exact ⟨⟨h1.e, h1.lm, h1.od, h1.lp, h1.lc, h1.sl, h1.cl, h1.dis, h1.lc0, h1.sp0⟩, by show st.bk ++ [(st.od.length : Int)] = _; rw [h.od, List.length_map], rfl, rfl, rfl⟩
        · rw [if_neg h10, if_neg h4, if_neg h5, if_neg h10]
          exact ⟨h1, rfl, rfl, rfl, rfl⟩
    obtain ⟨hb1, hblc, hb2⟩ := hbeg
    by_cases eb : (dBeg p.k p.s d).e = 0
    · obtain ⟨rb, bkb, spb, seb, lpb⟩ := hb1 eb
      rw [hnp] at hlp hlc hsp
      obtain ⟨c2, s2, f2⟩ := list_sim hdl hsm hone p.l 0 (by simp) (Nat.zero_le _) (st.bgn p) (dBeg p.k p.s d) rb eb (by omega) (by omega) (by omega) (by omega)
      obtain ⟨d2, hd2⟩ : ∃ d2, d2 = p.l.foldl (fun d x => dW fs F x d) (dBeg p.k p.s d) := ⟨_, rfl⟩
      rw [← hd2] at c2 s2 f2 ⊢
      have hlcE : (dEnd fs p.k p.s p.l.length d.see.length d2).lc ≤ d2.lc + 1 := by
        unfold dEnd DK.letD DK.callD
        repeat' split
        all_goals (first | (show d2.lc ≤ d2.lc + 1; omega) | (show d2.lc + 1 ≤ d2.lc + 1; omega))
      refine ⟨by omega, ?_⟩
      by_cases e2 : d2.e = 0
      · obtain ⟨st2, r2, b2, p2, q2, w2, t2⟩ := s2 e2
        rw [seb] at w2
        obtain ⟨s3, f3⟩ := fin_sim hnm (p := p) (d0 := d) r2 (by rw [b2, bkb]; split <;> simp) w2 h4 (by omega) e2
        constructor
        · intro e3
          obtain ⟨st3, t3, r3, b3, p3, q3, w3⟩ := s3 e3
          refine ⟨st3, r3, ?_, by omega, by omega, w3, fun r k => ?_⟩
          · rw [b3, b2, bkb]; split <;> simp
          · rw [hnp, show k + 2 * (1 + nszL p.l) = (k + 1) + 1 + 2 * nszL p.l by omega, t2, thr, if_neg (by simp [r2.e]), if_pos rfl, t3]
        · intro e3
          obtain ⟨st3, t3, r3⟩ := f3 e3
          refine ⟨st3, r3, fun r k => ?_⟩
          rw [hnp, show k + 2 * (1 + nszL p.l) = (k + 1) + 1 + 2 * nszL p.l by omega, t2, thr, if_neg (by simp [r2.e]), if_pos rfl, t3]
          exact thr_bad _ _ _ _ _ (by rw [r3]; exact e3)
      · have hE := dEnd_e (fs := fs) (k := p.k) (s := p.s) (n := p.l.length) (mark := d.see.length) e2
        obtain ⟨st2, r2, t2⟩ := f2 e2
        refine ⟨fun e3 => absurd (hE.symm.trans e3) e2, fun _ => ⟨st2, r2.trans hE.symm, fun r k => ?_⟩⟩
        rw [hnp, show k + 2 * (1 + nszL p.l) = (k + 1) + 1 + 2 * nszL p.l by omega, t2]
    · have hfold := fold_bad fs F p.l _ eb
      rw [hfold]
      have hE := dEnd_e (fs := fs) (k := p.k) (s := p.s) (n := p.l.length) (mark := d.see.length) eb
      have hlcE : (dEnd fs p.k p.s p.l.length d.see.length (dBeg p.k p.s d)).lc ≤ (dBeg p.k p.s d).lc := by
        unfold dEnd DK.letD DK.callD
        rw [if_pos eb, if_pos eb]
        repeat' split
        all_goals exact Int.le_refl _
      refine ⟨by omega, fun e3 => absurd (hE.symm.trans e3) eb, fun _ => ⟨st.bgn p, (hb2 eb).trans hE.symm, fun r k => ?_⟩⟩
      rw [show k + 2 * nsz p = (k + 2 * nsz p - 1) + 1 by omega]
      exact thr_bad _ _ _ _ _ (by rw [hb2 eb]; exact eb)

end Go.Proofs.YtlgdjeiendmniaaGreatDoor

namespace Go.Proofs.YtlgdjeiendmniaaGreatDoor
open Go.RowKit Go.Maps

/-- Parameters by the document; none: two have one name. -/
def prmD : List ByteArray → Nat → List (ByteArray × Int) → Option (List (ByteArray × Int))
  | [], _, see => some see
  | s :: r, k, see => if (fnd see s).isSome then none else prmD r (k + 1) (see ++ [(s, (k : Int))])
theorem prm_bad (ps : List ByteArray) (st : WK) (h : st.e ≠ 0) : prm ps st = st := by
  cases ps with
  | nil => rfl
  | cons s r => rw [prm, if_pos h]
theorem prm_sim : ∀ (ps : List ByteArray) (k : Nat) (see : List (ByteArray × Int)) (st : WK), RK st ⟨see, 0, (k : Int), [], [], 0⟩ 0 → k + ps.length ≤ 100000 →
    (∀ see', prmD ps k see = some see' → RK (prm ps st) ⟨see', 0, ((k + ps.length : Nat) : Int), [], [], 0⟩ 0 ∧ (prm ps st).sp = st.sp) ∧ (prmD ps k see = none → (prm ps st).e = 11)
  | [], k, see, st, h, hk => ⟨fun see' e => by rw [prmD] at e; injection e with e; subst e; exact ⟨h, rfl⟩, fun e => by cases e⟩
  | s :: r, k, see, st, h, hk => by
    simp only [List.length_cons] at hk
    have he := h.e
    rw [prmD, prm, if_neg (show ¬ st.e ≠ 0 by simp [he])]
    unfold WK.declare
    have hl : lkp st.lm s = fnd see s := by rw [h.lm]; rfl
    rw [hl]
    cases hf : (fnd see s).isSome
    · rw [if_neg (by decide), if_neg (by decide)]
      have hlc : st.lc = (k : Int) := h.lc
      have h2 : RK (st.put s st.lc).up ⟨see ++ [(s, (k : Int))], 0, ((k + 1 : Nat) : Int), [], [], 0⟩ 0 := by
        refine ⟨he, ?_, ?_, h.lp, ?_, h.sl, h.cl, ?_, by show 0 ≤ ((k + 1 : Nat) : Int); omega, h.sp0⟩
        · show (s, st.lc) :: st.lm = _
          rw [h.lm, hlc]; simp
        · show st.od ++ [s] = _
          rw [h.od]; simp
        · show wrap64 (st.lc + 1) = ((k + 1 : Nat) : Int)
          rw [hlc]; unfold wrap64; omega
        · have hn := h.dis
          show ((see ++ [(s, (k : Int))]).map (fun p => p.1.data.toList)).Nodup
          rw [List.map_append]
          refine List.nodup_append.2 ⟨hn, by simp, fun u hu v hv e => ?_⟩
          simp at hv
          subst hv
          obtain ⟨y, hy, rfl⟩ := List.mem_map.1 hu
          have hfn : fnd see s = none := by simpa using hf
          unfold fnd lkp at hfn
          have hfn2 : see.reverse.find? (fun q => q.1.data.toList == s.data.toList) = none := by simpa using hfn
          have h9 := List.find?_eq_none.1 hfn2 y (by simpa using hy)
          exact h9 (by simpa using e)
      obtain ⟨a, b⟩ := prm_sim r (k + 1) _ _ h2 (by omega)
      refine ⟨fun see' e => ?_, b⟩
      obtain ⟨a1, a2⟩ := a see' e
      rw [show k + 1 + r.length = k + (s :: r).length by simp; omega] at a1
      exact ⟨a1, a2⟩
    · rw [if_pos rfl, if_pos rfl]
      have hE : ((st.fail 11).up).e = 11 := by unfold WK.fail WK.up; rw [if_pos he]
      rw [prm_bad r _ (by rw [hE]; decide)]
      exact ⟨fun see' e => (by cases e), fun _ => hE⟩

/-- A function by the document: what its names mean, or its first error. -/
def dFn (fs : List PFn) (p : PFn) : PSc × Int := match prmD p.ps 0 [] with
  | none => (⟨0, [], []⟩, 11)
  | some see => if (dW fs (nsz p.bd) p.bd ⟨see, 0, (p.ps.length : Int), [], [], 0⟩).e ≠ 0 then (⟨0, [], []⟩, (dW fs (nsz p.bd) p.bd ⟨see, 0, (p.ps.length : Int), [], [], 0⟩).e)
    else if 64 < (dW fs (nsz p.bd) p.bd ⟨see, 0, (p.ps.length : Int), [], [], 0⟩).lc then (⟨0, [], []⟩, 65)
    else (⟨(dW fs (nsz p.bd) p.bd ⟨see, 0, (p.ps.length : Int), [], [], 0⟩).lc, (dW fs (nsz p.bd) p.bd ⟨see, 0, (p.ps.length : Int), [], [], 0⟩).sl, (dW fs (nsz p.bd) p.bd ⟨see, 0, (p.ps.length : Int), [], [], 0⟩).cl⟩, 0)
theorem fail_bad (st : WK) (c : Int) (h : st.e ≠ 0) : st.fail c = st := by unfold WK.fail; rw [if_neg h]
theorem step_bad (st : WK) (n : Nat) (h : st.e ≠ 0) : (st.step n).e = st.e := by
  unfold WK.step WK.stepTo
  split
  · have := fail_bad { st with sp := wrap64 (st.sp + (1 + (n : Int) / 4000)) } 65 h
    rw [this]
  · rfl
theorem bgn_bad (st : WK) (p : PN) (h : st.e ≠ 0) : (st.bgn p).e = st.e := by
  have hs := step_bad st p.s.size h
  have hs2 : (st.step p.s.size).e ≠ 0 := by rw [hs]; exact h
  unfold WK.bgn
  split
  · unfold WK.use
    split
    · rw [fail_bad _ _ hs2]; exact hs
    · exact hs
  split
  · exact hs
  split
  · exact hs
  split
  · unfold WK.leave
    split
    · rw [fail_bad _ _ hs2]; exact hs
    · exact hs
  · exact hs

theorem fn_sim {nm : List (ByteArray × Int)} {fs : List PFn} (hnm : nums fs 0 [] = some nm) {p : PFn} (hp : fX p) (hps : p.ps.length ≤ 1000) (hz : nsz p.bd ≤ 5000) {sp : Int} (h0 : 0 ≤ sp) (h1 : sp + 10000 ≤ 4194304) :
    ∃ st', fnW nm fs 100000 sp p = some st' ∧ st'.e = (dFn fs p).2 ∧ ((dFn fs p).2 = 0 → (⟨st'.lc, st'.sl, st'.cl⟩ : PSc) = (dFn fs p).1 ∧ 0 ≤ st'.sp ∧ st'.sp ≤ sp + 2 * nsz p.bd) := by
  obtain ⟨hn, hpz, hg⟩ := hp
  have hsm : (small p.bd.s && p.ps.all small) = true := by
    rw [Bool.and_eq_true]
    exact ⟨small_of hg.props.1, List.all_eq_true.2 (fun s hs => small_of (hpz s hs))⟩
  have hrk : RK (wkZ sp) ⟨[], 0, ((0 : Nat) : Int), [], [], 0⟩ 0 := ⟨rfl, rfl, rfl, rfl, rfl, rfl, rfl, by simp, by show (0 : Int) ≤ 0; omega, h0⟩
  obtain ⟨a, b⟩ := prm_sim p.ps 0 [] (wkZ sp) hrk (by omega)
  have hpos := nsz_pos p.bd
  unfold fnW dFn
  rw [if_pos hsm]
  cases hpd : prmD p.ps 0 [] with
  | none =>
    have hE := b hpd
    have hB := bgn_bad (prm p.ps (wkZ sp)) p.bd (by rw [hE]; decide)
    rw [show (100000 : Nat) = 99999 + 1 by rfl, thr_bad nm fs 99999 _ _ (by rw [hB, hE]; decide)]
    simp only
    refine ⟨_, rfl, ?_, fun e => absurd e (by decide)⟩
    split
    · rw [fail_bad _ _ (by rw [hB, hE]; decide), hB, hE]
    · rw [hB, hE]
  | some see =>
    obtain ⟨rk, hsp⟩ := a see hpd
    have hsp2 : (prm p.ps (wkZ sp)).sp = sp := hsp
    rw [Nat.zero_add] at rk
    obtain ⟨c, s, f⟩ := sim_all hnm (nsz p.bd) p.bd 0 (Nat.le_refl _) hg (Or.inl rfl) _ _ rk rfl (by show (0 : Int) ≤ 0; omega) (by decide) (by show (0 : Int) + 0 + (nsz p.bd : Int) ≤ _; omega) (by show (p.ps.length : Int) + (nsz p.bd : Int) ≤ _; omega) (by rw [hsp2]; omega)
    simp only
    generalize dW fs (nsz p.bd) p.bd ⟨see, 0, (p.ps.length : Int), [], [], 0⟩ = d' at *
    obtain ⟨K, hK⟩ : ∃ K, 100000 = K + 2 * nsz p.bd := ⟨100000 - 2 * nsz p.bd, by omega⟩
    by_cases e1 : d'.e = 0
    · obtain ⟨st', r, b1, p1, q1, w1, t⟩ := s e1
      rw [hsp2] at p1
      rw [hK, t [] K, thr]
      simp only
      rw [if_neg (show ¬ d'.e ≠ 0 by simp [e1])]
      have hlc := r.lc
      by_cases h64 : 64 < d'.lc
      · rw [if_pos h64, if_pos (by rw [hlc]; exact h64)]
        refine ⟨_, rfl, ?_, fun e => absurd e (by decide)⟩
        unfold WK.fail; rw [if_pos r.e]
      · rw [if_neg h64, if_neg (by rw [hlc]; exact h64)]
        exact ⟨st', rfl, r.e, fun _ => ⟨by rw [r.lc, r.sl, r.cl], r.sp0, p1⟩⟩
    · obtain ⟨st', r, t⟩ := f e1
      rw [hK, t [] K]
      simp only
      rw [if_pos e1]
      refine ⟨_, rfl, ?_, fun e => absurd e e1⟩
      split
      · rw [fail_bad _ _ (by rw [r]; exact e1)]; exact r
      · exact r

def dChk (fs : List PFn) : List PFn → List PSc → List PSc × Int
  | [], acc => (acc, 0)
  | p :: r, acc => if (dFn fs p).2 ≠ 0 then ([], (dFn fs p).2) else dChk fs r (acc ++ [(dFn fs p).1])
theorem chk_sim {nm : List (ByteArray × Int)} {fs : List PFn} (hnm : nums fs 0 [] = some nm) : ∀ (l : List PFn) (acc : List PSc) (sp : Int), (∀ p ∈ l, fX p ∧ p.ps.length ≤ 1000) → nszF l ≤ 5000 → 0 ≤ sp → sp + 10000 + 2 * nszF l ≤ 4194304 → chk nm fs 100000 l sp acc = some (dChk fs l acc)
  | [], acc, sp, h, hz, h0, h1 => rfl
  | p :: l, acc, sp, h, hz, h0, h1 => by
    rw [nszF] at hz h1
    obtain ⟨st', t, e, g⟩ := fn_sim hnm (h p (by simp)).1 (h p (by simp)).2 (by omega) h0 (by omega)
    rw [chk, t, dChk]
    simp only
    by_cases e0 : (dFn fs p).2 = 0
    · obtain ⟨g1, g2, g3⟩ := g e0
      rw [if_neg (by rw [e]; simp [e0]), if_neg (by simp [e0]), g1]
      exact chk_sim hnm l _ _ (fun q hq => h q (by simp [hq])) (by omega) g2 (by omega)
    · rw [if_pos (by rw [e]; exact e0), if_pos e0, e]
def mainD (fs : List PFn) : Int := match idxF fs ⟨#[109, 97, 105, 110]⟩ 0 with
  | none => 11
  | some i => if 0 < ((fs[i]?).map (·.ps.length)).getD 0 then 12 else 0
/-- Check by the document. -/
def docP (fs : List PFn) : List PSc × Int := match nums fs 0 [] with
  | none => ([], 11)
  | some _ => if (dChk fs fs []).2 ≠ 0 then ([], (dChk fs fs []).2) else if mainD fs ≠ 0 then ([], mainD fs) else ((dChk fs fs []).1, 0)
theorem check_doc (fs : List PFn) (h : ∀ p ∈ fs, fX p ∧ p.ps.length ≤ 1000) (hz : nszF fs ≤ 5000) : checkP fs 100000 = some (docP fs) ∧ checkQ fs 100000 = some (docP fs) := by
  have hsm : fs.all (fun p => small p.nm) = true := List.all_eq_true.2 (fun p hp => small_of (h p hp).1.1)
  have hq : checkQ fs 100000 = some (docP fs) := by
    unfold checkQ docP
    cases hn : nums fs 0 [] with
    | none => rfl
    | some nm =>
      simp only
      rw [chk_sim hn fs [] 0 h hz (by decide) (by omega)]
      have hm : mainP nm fs = mainD fs := by
        unfold mainP mainD
        have hi := nums_idx fs 0 [] nm hn ⟨#[109, 97, 105, 110]⟩
        have hl0 : lkp [] (⟨#[109, 97, 105, 110]⟩ : ByteArray) = none := rfl
        rw [hl0] at hi
        simp only at hi
        rw [hi]
        cases idxF fs ⟨#[109, 97, 105, 110]⟩ 0 with
        | none => rfl
        | some i => simp
      simp only
      rw [hm]
      split
      · rfl
      split
      · rfl
      · rfl
  refine ⟨?_, hq⟩
  unfold checkP
  rw [if_pos hsm]
  exact hq

/- Words are no longer than their text. -/
theorem txF_len : ∀ (f : Nat) (l : List UInt8) (t : List UInt8) (m : Nat), txF f l = some (t, m) → t.length ≤ l.length
  | 0, l, t, m, h => by cases h
  | f + 1, [], t, m, h => by cases h
  | f + 1, c :: r, t, m, h => by
    rw [txF] at h
    split at h
    · cases h
    split at h
    · injection h with h; injection h with h1 h2; subst h1; simp
    split at h
    · cases h
    · rename_i h0
      obtain ⟨q, hq, he⟩ := Option.map_eq_some_iff.1 h
      injection he with he1 he2
      subst he1
      have ih := txF_len f _ q.1 q.2 hq
      rw [List.length_drop] at ih
      have := sg_le (c :: r)
      simp only [List.length_cons] at *
      omega
theorem tokL_len {F : Nat} {l : List UInt8} {k : Int} {t : List UInt8} {n : Int} {m : Nat} (h : tokL F l = some (k, t, n, m)) : t.length ≤ l.length := by
  cases l with
  | nil => cases h
  | cons c r =>
    rw [tokL] at h
    split at h
    · unfold numL at h
      (repeat' split at h) <;> first | cases h; done | (cases h; simp)
    split at h
    · unfold nameL at h
      split at h
      · cases h
      · injection h with h
        injection h with h1 h2
        injection h2 with h2 h3
        subst h2
        rw [List.length_take]
        exact Nat.min_le_right _ _
    split at h
    · unfold textL at h
      obtain ⟨q, hq, hp⟩ := Option.map_eq_some_iff.1 h
      injection hp with h1 h2
      injection h2 with h2 h3
      subst h2
      have := txF_len F r q.1 q.2 hq
      simp only [List.length_cons]
      omega
    · unfold opLL at h
      split at h
      · cases h
      · injection h with h
        injection h with h1 h2
        injection h2 with h2 h3
        subst h2
        rw [List.length_take]
        exact Nat.min_le_right _ _
theorem lexL_size (F : Nat) : ∀ (f : Nat) (l : List UInt8) (o : Nat), ∀ t ∈ (lexL F f l o).1, t.t.size ≤ l.length := by
  intro f
  induction f with
  | zero => intro l o t h; simp [lexL] at h
  | succ f ih =>
    intro l o t h
    rw [lexL] at h
    have hdl : (l.drop (skp false l)).length ≤ l.length := by rw [List.length_drop]; omega
    split at h
    · simp at h
    · rename_i c r hcr
      rw [hcr] at hdl
      split at h
      · simp at h
      · rename_i k tx n m ht
        rcases List.mem_cons.1 h with rfl | h
        · have := tokL_len ht
          show tx.toArray.size ≤ _
          simp only [List.size_toArray]
          omega
        · have := ih _ _ t h
          rw [List.length_drop] at this
          omega
theorem begP_tz (s : ByteArray) : Tz (begP s) := by
  unfold begP
  split
  · exact Tz.nil rfl
  · rename_i hs
    split
    · exact Tz.nil rfl
    · intro t ht
      have h1 : t ∈ (lexF (s.size + 1) s 0).1 := ht
      rw [lexF_L _ _ _ (Nat.zero_le _)] at h1
      have := lexL_size _ _ _ _ t h1
      simp only [List.drop_zero] at this
      have h2 := L_len s
      omega
theorem begP_nv (s : ByteArray) : Nv (begP s) := by
  unfold begP
  split
  · exact ⟨fun e => absurd e (show ¬ (2 : Int) = 0 by decide), fun _ => rfl⟩
  · split
    · exact ⟨fun e => absurd e (show ¬ (10 : Int) = 0 by decide), fun _ => rfl⟩
    · exact ⟨fun _ => ⟨(show (0 : Int) ≤ 0 by decide), (show (0 : Int) ≤ 24 by decide)⟩, fun e => absurd rfl e⟩
/-- What Check tells of a program that was read. -/
theorem rd_doc (s : ByteArray) (he : (rdP s 5000).2.e = 0) (ht : tooP (rdP s 5000).1 = false) : checkP (rdP s 5000).1 100000 = some (docP (rdP s 5000).1) ∧ checkQ (rdP s 5000).1 100000 = some (docP (rdP s 5000).1) := by
  have hl := begP_len s
  obtain ⟨a, b, c⟩ := funs_j (len := s.size) (sts_j s.size 5000 5000 (Nat.le_refl _)).2.1 5000 5000 [] (begP s) (fun p h => by cases h) (begP_nv s) (begP_tz s) (by omega)
  have hz : nszF (rdP s 5000).1 ≤ 5000 := by
    have h1 := c he
    have h2 : nszF (rdP s 5000).1 + (rdP s 5000).2.ts.length ≤ nszF [] + (begP s).ts.length := h1
    rw [nszF] at h2
    omega
  refine check_doc _ (fun p hp => ⟨a p hp, ?_⟩) hz
  unfold tooP at ht
  rw [Bool.or_eq_false_iff] at ht
  have h3 := List.any_eq_false.1 ht.2 p hp
  simp at h3
  omega

end Go.Proofs.YtlgdjeiendmniaaGreatDoor
