/- The heights of a code. · Ticks: a call has its own; what counts for a cycle. · Cycles without a tick: as plain functions; what it is that a world holds what is left of the ways. · Whether there is a cycle without a tick. -/
import Derived.Test.YtlgdjeiendmniaaGreatDoorZg4
set_option linter.unusedSimpArgs false
set_option linter.unusedVariables false
set_option maxRecDepth 10000

namespace Go.Proofs.YtlgdjeiendmniaaGreatDoor.V
open Go.RowKit

/-- While the heights are laid as none. -/
structure HtI (w wr : World) (a : Option Addr) (cap n k : Nat) : Prop where
  ext : Ext w wr
  rB : wr.heap[w.heap.size + 1]? = some (.cells #[.slice a n cap, .slice (some ⟨w.heap.size, 0, none⟩) n n, .slice none 0 0, .bool false] 99 (0, 0))
  rH : wr.heap[w.heap.size]? = some (.cells (zs (List.replicate k (-1) ++ List.replicate (n - k) 0)).toArray 3 (0, 0))

theorem HtI.step {w wr : World} {a : Option Addr} {cap n k : Nat} (h : HtI w wr a cap n k) (hk : k < n) : HtI w (wr.setCell ⟨w.heap.size, k, none⟩ (.int .i64 (-1))) a cap n (k + 1) := by
  refine ⟨h.ext.set (Nat.le_refl _) _, k_row_other h.rB (by omega) _ _, ?_⟩
  rw [k_row_set h.rH k (.int .i64 (-1))]
  congr 2
  have e : List.replicate (n - k) (0 : Int) = 0 :: List.replicate (n - (k + 1)) 0 := by
    rw [show n - k = n - (k + 1) + 1 by omega]; rfl
  rw [e]
  simp only [zs, List.map_append, List.map_replicate, List.map_cons, List.setIfInBounds_toArray]
  rw [List.set_append_right _ _ (by simp)]
  simp [List.replicate_succ']

theorem HtI.done {w wr : World} {a : Option Addr} {cap n : Nat} (h : HtI w wr a cap n n) : WkS w wr (w.heap.size + 1) w.heap.size a cap n ⟨List.replicate n (-1), [], false⟩ none 0 := by
  refine ⟨h.ext, by omega, Nat.le_refl _, by omega, h.rB, ?_, ⟨by simp, by simp, fun x hx => ?_⟩, World.ownsRow_nil _ _ _ _, fun k e => by cases e⟩
  · rw [h.rH]; simp
  · have := List.eq_of_mem_replicate hx
    omega

/-- What heightsOf tells. -/
def HtR (w : World) (n : Nat) (r : Option (List Int)) (e : Ending) (w' : World) : Prop :=
  match r with
  | none => e = .returned (.tuple #[.slice none 0 0, .bool false]) ∧ Ext w w'
  | some hs => hs.length = n ∧ (∀ x ∈ hs, -1 ≤ x ∧ x ≤ 64) ∧ e = .returned (.tuple #[.slice (some ⟨w.heap.size, 0, none⟩) n n, .bool true]) ∧ RepZ w' (Fr2 w w') (some ⟨w.heap.size, 0, none⟩) hs ∧ Ext w w'

/-- At the label. -/
structure HtJ (w wr : World) (a : Option Addr) (cap : Nat) (code : List KI) (K k : Nat) (F : Option (List Int)) (st : KW) (oa : Option Addr) (oc : Nat) : Prop where
  S : WkS w wr (w.heap.size + 1) w.heap.size a cap code.length st oa oc
  eq : (match kRun code k st with | none => none | some st => if st.f then some none else some (some st.hs)) = some F
  len : st.op.length + k ≤ K + 1

theorem WkS.tells {w wr : World} {B : Nat} {a : Option Addr} {cap n : Nat} {st : KW} {oa : Option Addr} {oc : Nat} (S : WkS w wr B w.heap.size a cap n st oa oc) : RepZ wr (Fr2 w wr) (some ⟨w.heap.size, 0, none⟩) st.hs :=
  Or.inr ⟨_, rfl, ⟨Nat.le_refl _, k_lt S.rH⟩, fun j x hx => k_rowC S.rH j (rH_at hx)⟩

set_option maxHeartbeats 1000000 in
theorem heightsOf_w (code : List KI) (a : Option Addr) (cap K : Nat) (F : Option (List Int)) (w : World) (hc : RepC w (In w) a code) (hb : KBd code) (hnb : KNb code) (hn : code.length ≤ 1000000) (hK : K ≤ 8000000) (hF : kHts code K = some F) :
    Calls Tryz.prog 22 #[.slice a code.length cap] w (HtR w code.length F) := by
  have hmk := make_ints code.length hn w
  have HCm := hide (fun (W : World) (st : KW) (oa : Option Addr) (oc j : Nat) (h : Int) (S : WkS w W (w.heap.size + 1) w.heap.size a cap code.length st oa oc) => come_w w W _ _ a cap code.length st oa oc j h S)
  have HLv := hide (fun (W : World) (st : KW) (oa : Option Addr) (oc j : Nat) (S : WkS w W (w.heap.size + 1) w.heap.size a cap code.length st oa oc) (hj : j < code.length) (h1 : st.op.length ≤ 9000000) => leave_w w W _ _ a cap code st oa oc j S hc hb hnb hj h1 hn)
  have HTk := hide (fun (W : World) (st : KW) (oa : Option Addr) (oc j : Nat) (r : List Nat) (S : WkS w W (w.heap.size + 1) w.heap.size a cap code.length st oa oc) => take_w w W _ _ a cap code.length st oa oc j r S)
  have HF := hide hF
  have HI0 : Hd (HtI w ((w.alloc (.cells (zs (List.replicate code.length 0)).toArray 3)).alloc (.cells #[.slice a code.length cap, .slice (some ⟨w.heap.size, 0, none⟩) code.length code.length, .slice none 0 0, .bool false] 99)) a cap code.length 0) := by
    refine ⟨(Ext.alloc _ _).trans (Ext.alloc _ _), ?_, ?_⟩
    · have := Go.heap_alloc_new (w.alloc (.cells (zs (List.replicate code.length 0)).toArray 3)) (.cells #[.slice a code.length cap, .slice (some ⟨w.heap.size, 0, none⟩) code.length code.length, .slice none 0 0, .bool false] 99)
      rw [heap_alloc_size] at this
      exact this
    · rw [(Ext.alloc _ _).block w.heap.size (by simp), Go.heap_alloc_new]
      simp
  clear hF hc hb hnb
  have hz0 : (zs (List.replicate code.length 0)).toArray = Array.replicate code.length (.int .i64 0) := by simp [zs]
  rw [hz0] at HI0
  clear hz0
  generalize hN : code.length = n at *
  go_enter Tryz.func22, Tryz.ntmps22
  go_wp2_with fail
  refine k_scope_two 1 0 (by decide) (fun k a' wr => ∃ (u5 u6 u7 u8 u9 u10 u11 u12 u13 u14 u15 u16 u17 u18 u19 u20 u21 u22 u23 u24 u25 u26 u27 u28 u29 u30 u31 u32 : Value), a' = { tmps := #[.slice a n cap, undef, .slice none 0 0, .bool false, .pointer (some ⟨w.heap.size + 1, 0, none⟩), u5, u6, u7, u8, u9, u10, u11, u12, u13, u14, u15, u16, u17, u18, u19, u20, u21, u22, u23, u24, u25, u26, u27, u28, u29, u30, u31, u32], defers := [] } ∧ ∃ st oa oc, Hd (HtJ w wr a cap code K k F st oa oc)) (fun a' wr => ∃ (u5 u6 u7 u8 u9 u10 u11 u12 u13 u14 u15 u16 u17 u18 u19 u20 u21 u22 u23 u24 u25 u26 u27 u28 u29 u30 u31 u32 : Value), a' = { tmps := #[.slice a n cap, undef, .slice none 0 0, .bool false, .pointer (some ⟨w.heap.size + 1, 0, none⟩), u5, u6, u7, u8, u9, u10, u11, u12, u13, u14, u15, u16, u17, u18, u19, u20, u21, u22, u23, u24, u25, u26, u27, u28, u29, u30, u31, u32], defers := [] } ∧ Hd (F = none ∧ Ext w wr)) rfl rfl ?_ ?_ ?_
  · rintro k a' wr ⟨u5, u6, u7, u8, u9, u10, u11, u12, u13, u14, u15, u16, u17, u18, u19, u20, u21, u22, u23, u24, u25, u26, u27, u28, u29, u30, u31, u32, rfl, st, oa, oc, hJ⟩
    have hE := (unhide hJ).eq
    cases k with
    | zero => rw [kRun] at hE; cases hE
    | succ k =>
    rw [kRun] at hE
    have S := (unhide hJ).S
    rw [hN] at S
    have hlen := (unhide hJ).len
    have c3 : wr.cell? ⟨w.heap.size + 1, 3, none⟩ = some (.bool st.f) := k_rowC S.rB 3 rfl
    have c2 : wr.cell? ⟨w.heap.size + 1, 2, none⟩ = some (.slice oa st.op.length oc) := k_rowC S.rB 2 rfl
    have c1 : wr.cell? ⟨w.heap.size + 1, 1, none⟩ = some (.slice (some ⟨w.heap.size, 0, none⟩) n n) := k_rowC S.rB 1 rfl
    have HS := hide S
    clear S
    cases hf : st.f with
    | true =>
      rw [hf] at hE c3
      have HZ : Hd (F = none ∧ Ext w wr) := by
        simp only [if_pos] at hE
        rw [hf] at hE
        simp at hE
        exact ⟨hE.symm, (unhide HS).ext⟩
      clear hE hf
      go_wp2_with fail
      go_step3
      refine Or.inr ?_
      exact ⟨rfl, _, _, _, _, _, _, _, _, _, _, _, _, _, _, _, _, _, _, _, _, _, _, _, _, _, _, _, _, rfl, HZ⟩
    | false =>
      rw [hf] at hE c3
      cases hop : st.op with
      | nil =>
        rw [hop] at hE c2
        simp only [List.length_nil] at c2
        have HZ : Hd (F = some st.hs) := by
          simp [hf] at hE
          exact hE.symm
        clear hE
        go_wp2_with fail
        simp only [KTwo]
        have hS := unhide HS
        rw [unhide HZ]
        exact bodyPost_ret (v := .tuple #[.slice (some ⟨w.heap.size, 0, none⟩) n n, .bool true]) (by simp [results, Tryz.results22, go_sem]) rfl ⟨hS.ok.1, hS.ok.2.2, rfl, hS.tells, hS.ext⟩
      | cons j r =>
        rw [hop] at hE c2
        have hj : j < n := (unhide HS).ok.2.1 j (by rw [hop]; exact List.mem_cons_self ..)
        have hol : r.length + 1 + (k + 1) ≤ K + 1 := by have h0 := hlen; rw [hop] at h0; simp at h0; omega
        have HOP := hide hop
        have HF1 := hide hf
        have HEq : Hd ((match kRun code k (kLeave code ⟨st.hs, r, st.f⟩ j) with | none => none | some st => if st.f then some none else some (some st.hs)) = some F) := by
          simp at hE
          rw [hf]
          exact hE
        have hlv := (kLeave_len code ⟨st.hs, r, st.f⟩ j).2
        have HL2 := hide hlv
        simp only [List.length_cons] at c2
        clear hE hf hop hlen hlv
        go_wp2_with (first
          | (go_at_call 44; refine Calls.mono (unhide HTk wr st oa oc j r (unhide HS) (unhide HOP) ?h1) ?_; rotate_left 1; rintro e w1 ⟨rfl, oa1, oc1, s1⟩; have S1 := hide s1; clear s1)
          | (go_at_call 43; refine Calls.mono (unhide HLv w1 ⟨st.hs, r, st.f⟩ oa1 oc1 j (unhide S1) hj ?h2) ?_; rotate_left 1; rintro e w2 ⟨rfl, oa2, oc2, s2, f2⟩; have S2 := hide s2; clear s2 f2))
        case h1 => rw [unhide HOP]; simp; omega
        case h2 => show r.length ≤ _; omega
        go_step3
        refine Or.inl ?_
        refine ⟨rfl, k, by omega, _, _, _, _, _, _, _, _, _, _, _, _, _, _, _, _, _, _, _, _, _, _, _, _, _, _, _, _, rfl, _, oa2, oc2, ⟨by rw [hN]; exact unhide S2, unhide HEq, ?_⟩⟩
        have h0 := unhide HL2
        omega
  · rintro a' wr ⟨u5, u6, u7, u8, u9, u10, u11, u12, u13, u14, u15, u16, u17, u18, u19, u20, u21, u22, u23, u24, u25, u26, u27, u28, u29, u30, u31, u32, rfl, hJ⟩
    go_wp2_with fail
    simp only [Exit.noGoto]
    have hz := unhide hJ
    rw [hz.1]
    exact bodyPost_ret (v := .tuple #[.slice none 0 0, .bool false]) (by simp [results, Tryz.results22, go_sem]) rfl ⟨rfl, hz.2⟩
  · intro HJ1
    have H1 := hide HJ1
    clear HJ1
    go_wp2_with fail
    go_loopw [14] (fun t wr => ∃ (k : Nat), t = .int .i64 k ∧ k ≤ n ∧ Hd (HtI w wr a cap n k)) (fun t _ => n - (intOf t).toNat)
    case atStart => exact ⟨0, rfl, by omega, HI0⟩
    case round =>
      obtain ⟨k, rfl, hk, hI⟩ := hrel
      have c1 : wr.cell? ⟨w.heap.size + 1, 1, none⟩ = some (.slice (some ⟨w.heap.size, 0, none⟩) n n) := k_rowC (unhide hI).rB 1 rfl
      by_cases hlt : k < n
      · have cx : wr.cell? ⟨w.heap.size, k, none⟩ = some (.int .i64 0) := k_rowC (unhide hI).rH k (rH_at (by
          rw [List.getElem?_append_right (by simp), List.length_replicate, Nat.sub_self, List.getElem?_replicate, if_pos (by omega)]))
        have fx := k_rowF (unhide hI).rH k
        go_wp2_with fail
        go_roundw
        case rel => exact ⟨k + 1, by go_num, by omega, (unhide hI).step hlt⟩
        case measure => simp [intOf]; omega
      · obtain rfl : k = n := by omega
        have S0 := hide (unhide hI).done
        go_wp2_with (go_at_call 42; refine Calls.mono (unhide HCm wr _ none 0 0 0 (unhide S0) (by simp) hn (by omega)) ?_; rintro e w1 ⟨rfl, oa1, oc1, s1, f1⟩; have S1 := hide s1; clear s1 f1)
        refine wp_label ?_
        rename_i hKK
        refine hKK _ _ (unhide H1 K _ _ ⟨_, _, _, _, _, _, _, _, _, _, _, _, _, _, _, _, _, _, _, _, _, _, _, _, _, _, _, _, rfl, _, oa1, oc1, ⟨by rw [hN]; exact unhide S1, ?_, ?_⟩⟩)
        · have h0 := unhide HF
          unfold kHts at h0
          rw [hN] at h0
          exact h0
        · have h0 := (kCome_len k ⟨List.replicate k (-1), [], false⟩ ((0 : Nat) : Int) 0).2
          simp only [List.length_nil] at h0
          omega

end Go.Proofs.YtlgdjeiendmniaaGreatDoor.V

namespace Go.Proofs.YtlgdjeiendmniaaGreatDoor.V
open Go.RowKit

/-- Is the instruction at a place no call without its tick, nor leads to a call past it? -/
def kCallT (code : List KI) (j : Nat) : Option Bool :=
  match code[j]? with
  | none => none
  | some i =>
    if i.op = 9 then (match j with
      | 0 => some false
      | p + 1 => match code[p]? with
        | none => none
        | some q => some (decide (q.op = 12)))
    else if i.op = 7 ∨ i.op = 8 then (if i.a < 0 then none else match code[i.a.toNat]? with
        | none => none
        | some q => some (decide (¬ q.op = 9)))
    else some true

/-- Does it count for a cycle: come to, and no tick? -/
def kCnt (code : List KI) (hs : List Int) (j : Nat) : Option Bool :=
  match hs[j]?, code[j]? with
  | some x, some i => some (decide (¬ x = -1) && decide (¬ i.op = 12))
  | _, _ => none

set_option maxHeartbeats 1000000 in
theorem callT_any (code : List KI) (j : Nat) (r : Bool) (a : Option Addr) (cap : Nat) (w : World) (hc : RepC w (In w) a code) (hn : code.length ≤ 1000000) (hr : kCallT code j = some r) :
    Calls Tryz.prog 45 #[.slice a code.length cap, .int .i64 (j : Int)] w fun e w' => e = .returned (.bool r) ∧ Ext w w' := by
  unfold kCallT at hr
  cases hi : code[j]? with
  | none => rw [hi] at hr; cases hr
  | some i =>
  rw [hi] at hr
  simp only at hr
  obtain ⟨b, o, rfl, hf, d0, d1, d2⟩ := hc.at hi
  have hj : j < code.length := (List.getElem?_eq_some_iff.1 hi).1
  obtain ⟨p, x, y⟩ := i
  simp only at d0 d1 d2 hr
  by_cases h9 : p = 9
  · subst h9
    rw [if_pos rfl] at hr
    cases j with
    | zero =>
      simp only at hr
      injection hr with hr
      subst hr
      generalize code.length = n at *
      clear hc hi
      rw [Nat.zero_mul, Nat.add_zero] at d0 d1 d2
      show Calls Tryz.prog 45 #[.slice (some ⟨b, o, none⟩) n cap, .int .i64 0] w _
      go_enter Tryz.func45, Tryz.ntmps45
      go_wp2_with fail
      go_ret
      exact ⟨rfl, Ext.alloc _ _⟩
    | succ j =>
      simp only at hr
      cases hq : code[j]? with
      | none => rw [hq] at hr; cases hr
      | some q =>
      rw [hq] at hr
      injection hr with hr
      obtain ⟨b2, o2, e2, _, q0, q1, q2⟩ := hc.at hq
      injection e2 with e2
      injection e2 with e2 e3
      subst e2 e3
      have hq0 := (Ext.alloc w (.cells #[.int .i64 9, .int .i64 x, .int .i64 y] 33)).cell q0
      have hj2 : ((j : Int) + 1 - 1) = (j : Int) := by omega
      have ht : (q.op == 12) = r := by rw [← hr]; by_cases h : q.op = 12 <;> simp [h]
      generalize code.length = n at *
      clear hc hi hq hr
      go_enter Tryz.func45, Tryz.ntmps45
      go_wp2_with fail
      go_ret
      exact ⟨ret_bool (by first | rfl | exact ht | simpa using ht), Ext.alloc _ _⟩
  · rw [if_neg h9] at hr
    by_cases h78 : p = 7 ∨ p = 8
    · rw [if_pos h78] at hr
      by_cases hx : x < 0
      · rw [if_pos hx] at hr; cases hr
      · rw [if_neg hx] at hr
        obtain ⟨z, rfl⟩ : ∃ z : Nat, x = z := ⟨x.toNat, by omega⟩
        rw [show ((z : Int)).toNat = z by omega] at hr
        cases hq : code[z]? with
        | none => rw [hq] at hr; cases hr
        | some q =>
        rw [hq] at hr
        injection hr with hr
        obtain ⟨b2, o2, e2, _, q0, q1, q2⟩ := hc.at hq
        have hz : z < code.length := (List.getElem?_eq_some_iff.1 hq).1
        injection e2 with e2
        injection e2 with e2 e3
        subst e2 e3
        have ht : (q.op != 9) = r := by rw [← hr]; by_cases h : q.op = 9 <;> simp [h]
        generalize code.length = n at *
        have hq0 := fun ob => (Ext.alloc w ob).cell q0
        clear hc hi hq hr hx h9
        rcases h78 with rfl | rfl
        all_goals
          go_enter Tryz.func45, Tryz.ntmps45
          go_wp2_with fail
          go_ret
          exact ⟨ret_bool (by first | rfl | exact ht | simpa using ht), Ext.alloc _ _⟩
    · rw [if_neg h78] at hr
      injection hr with hr
      subst hr
      have h7 : (p == 7) = false := by rw [beq_eq_false_iff_ne]; omega
      have h8 : (p == 8) = false := by rw [beq_eq_false_iff_ne]; omega
      have h9' : (p == 9) = false := by rw [beq_eq_false_iff_ne]; exact h9
      generalize code.length = n at *
      clear hc hi h78 h9
      go_enter Tryz.func45, Tryz.ntmps45
      go_wp2_with fail
      go_ret
      exact ⟨rfl, Ext.alloc _ _⟩

set_option maxHeartbeats 1000000 in
/-- The closure that tells whether a place counts. -/
theorem cnt_any (code : List KI) (hs : List Int) (j : Nat) (r : Bool) (a ha : Option Addr) (cap hcap X Y : Nat) (w : World) (hc : RepC w (In w) a code) (hh : RepZ w (In w) ha hs) (hl : hs.length = code.length) (hn : code.length ≤ 1000000) (hr : kCnt code hs j = some r)
    (hX : w.cell? ⟨X, 0, none⟩ = some (.slice a code.length cap)) (hY : w.cell? ⟨Y, 0, none⟩ = some (.slice ha code.length hcap)) :
    Calls Tryz.prog 72 #[.int .i64 (j : Int), .pointer (some ⟨Y, 0, none⟩), .pointer (some ⟨X, 0, none⟩)] w fun e w' => e = .returned (.bool r) ∧ w' = w := by
  unfold kCnt at hr
  cases hx : hs[j]? with
  | none => rw [hx] at hr; cases hr
  | some x =>
  cases hi : code[j]? with
  | none => rw [hx, hi] at hr; cases hr
  | some i =>
  rw [hx, hi] at hr
  injection hr with hr
  obtain ⟨b, o, rfl, hf, d0, d1, d2⟩ := hc.at hi
  have hj : j < code.length := (List.getElem?_eq_some_iff.1 hi).1
  obtain ⟨hb, rfl, hcell⟩ : ∃ hb, ha = some ⟨hb, 0, none⟩ ∧ w.cell? ⟨hb, j, none⟩ = some (.int .i64 x) := by
    rcases hh with rfl | ⟨hb, rfl, _, h⟩
    · simp at hx
    · exact ⟨hb, rfl, h j x hx⟩
  generalize code.length = n at *
  clear hc hh hx hi hl
  by_cases h1 : x = -1
  · have e1 : (x != -1) = false := by simp [h1]
    have hr : r = false := by rw [← hr]; simp [h1]
    subst hr
    clear h1
    go_enter Tryz.func72, Tryz.ntmps72
    go_wp2_with fail
    go_ret
    exact ⟨rfl, rfl⟩
  · have e1 : (x != -1) = true := by simp [h1]
    have ht : (i.op != 12) = r := by rw [← hr]; by_cases h : i.op = 12 <;> simp [h, h1]
    clear h1 hr
    go_enter Tryz.func72, Tryz.ntmps72
    go_wp2_with fail
    go_ret
    exact ⟨ret_bool (by first | rfl | exact ht | simpa using ht), rfl⟩

end Go.Proofs.YtlgdjeiendmniaaGreatDoor.V

namespace Go.Proofs.YtlgdjeiendmniaaGreatDoor.V
open Go.RowKit

/-- One more way into each of these places. -/
def kAdd : List Int → List Int → Option (List Int)
  | [], into => some into
  | to :: r, into => if to < 0 then none else match into[to.toNat]? with
    | none => none
    | some x => if -1000000 ≤ x ∧ x ≤ 1000000 then kAdd r (into.set to.toNat (x + 1)) else none
/-- The ways of what counts, from a place on. -/
def kL1 (code : List KI) (hs : List Int) : Nat → Nat → Int → List Int → Option (Int × List Int)
  | 0, _, left, into => some (left, into)
  | m + 1, j, left, into => match kCnt code hs j with
    | none => none
    | some false => kL1 code hs m (j + 1) left into
    | some true => match kAdd (kNext code j) into with
      | none => none
      | some into' => kL1 code hs m (j + 1) (left + 1) into'
/-- What counts and no way leads to, from a place on. -/
def kL2 (code : List KI) (hs into : List Int) : Nat → Nat → List Nat → Option (List Nat)
  | 0, _, free => some free
  | m + 1, j, free => match kCnt code hs j with
    | none => none
    | some false => kL2 code hs into m (j + 1) free
    | some true => match into[j]? with
      | none => none
      | some x => kL2 code hs into m (j + 1) (if x = 0 then j :: free else free)
/-- One way less into each of these places. -/
def kSub (code : List KI) (hs : List Int) : List Int → List Int → List Nat → Option (List Int × List Nat)
  | [], into, free => some (into, free)
  | to :: r, into, free => if to < 0 then none else match into[to.toNat]? with
    | none => none
    | some x => if -1000000 ≤ x ∧ x ≤ 1000000 then
        (if x - 1 = 0 then (match kCnt code hs to.toNat with
          | none => none
          | some c => kSub code hs r (into.set to.toNat (x - 1)) (if c then to.toNat :: free else free))
        else kSub code hs r (into.set to.toNat (x - 1)) free) else none
/-- What no way leads to is taken away, again and again. -/
def kL4 (code : List KI) (hs : List Int) : Nat → Int → List Int → List Nat → Option Int
  | 0, _, _, _ => none
  | k + 1, left, into, free => match free with
    | [] => some left
    | j :: r => if -1000000 ≤ left ∧ left ≤ 1000000 then (match kSub code hs (kNext code j) into r with
      | none => none
      | some q => kL4 code hs k (left - 1) q.1 q.2) else none
/-- Is there a cycle? -/
def kCyc (code : List KI) (hs : List Int) (K : Nat) : Option Bool :=
  match kL1 code hs code.length 0 0 (List.replicate code.length 0) with
  | none => none
  | some q => match kL2 code hs q.2 code.length 0 [] with
    | none => none
    | some free => match kL4 code hs K q.1 q.2 free with
      | none => none
      | some l => some (decide (0 < l))

structure CyS (w wr : World) (a : Option Addr) (cap : Nat) (ha : Option Addr) (hcap n : Nat) (into : List Int) (free : List Nat) (fa : Option Addr) (fc : Nat) : Prop where
  ext : Ext w wr
  rX : wr.heap[w.heap.size]? = some (.cells #[.slice a n cap] 29 (0, 0))
  rY : wr.heap[w.heap.size + 1]? = some (.cells #[.slice ha n hcap] 45 (0, 0))
  rI : wr.heap[w.heap.size + 1 + 1]? = some (.cells (zs into).toArray 3 (0, 0))
  len : into.length = n
  own : wr.ownsRow (w.heap.size + 3) 3 1 (.slice fa free.length fc) free.length (ns free.reverse)

def NxR (w wr : World) (fa nb : Option Addr) (nx : List Int) : Prop := RepZ wr (fun b => w.heap.size + 3 ≤ b ∧ b < wr.heap.size ∧ obk fa ≠ some b) nb nx

section
variable {w wr w2 : World} {a : Option Addr} {cap : Nat} {ha : Option Addr} {hcap n : Nat} {into : List Int} {free : List Nat} {fa : Option Addr} {fc : Nat} {nb : Option Addr} {nx : List Int}

theorem CyS.on (h : CyS w wr a cap ha hcap n into free fa fc) (x : Ext wr w2) : CyS w w2 a cap ha hcap n into free fa fc :=
  ⟨h.ext.trans x, (x.block _ (k_lt h.rX)).trans h.rX, (x.block _ (k_lt h.rY)).trans h.rY, (x.block _ (k_lt h.rI)).trans h.rI, h.len, k_own_heap h.own (fun i hi => x.block i (h.own.lt i hi).2)⟩
theorem CyS.setI (h : CyS w wr a cap ha hcap n into free fa fc) (j : Nat) (v : Int) : CyS w (wr.setCell ⟨w.heap.size + 1 + 1, j, none⟩ (.int .i64 v)) a cap ha hcap n (into.set j v) free fa fc := by
  refine ⟨h.ext.set (by simp only; omega) _, k_row_other h.rX (by omega) _ _, k_row_other h.rY (by omega) _ _, ?_, by simpa using h.len, k_own_heap h.own (fun i hi => Below.heap_setCell _ _ _ _ (by have := (h.own.lt i hi).1; simp only; omega))⟩
  rw [k_row_set h.rI j (.int .i64 v)]
  simp [zs, List.map_set]
theorem CyS.pop {j : Nat} {r : List Nat} (h : CyS w wr a cap ha hcap n into (j :: r) fa fc) : CyS w wr a cap ha hcap n into r fa fc := by
  have ho := k_own_prefix (m := r.length) h.own (by simp)
  have e : (ns (j :: r).reverse).take (r.length * 1) = ns r.reverse := by
    rw [Nat.mul_one]
    simp only [ns, List.reverse_cons, List.map_append]
    rw [List.take_append_of_le_length (by simp)]
    rw [List.take_of_length_le (by simp)]
  rw [e] at ho
  exact ⟨h.ext, h.rX, h.rY, h.rI, h.len, ho⟩
theorem CyS.top {j : Nat} {r : List Nat} (h : CyS w wr a cap ha hcap n into (j :: r) fa fc) : ∃ g, fa = some ⟨g, 0, none⟩ ∧ r.length + 1 ≤ fc ∧ wr.cell? ⟨g, r.length, none⟩ = some (.int .i64 (j : Int)) := by
  have ho := h.own
  obtain ⟨h1, ⟨e, h0⟩ | ⟨g, cap2, cur, e, hb, hg, hn, _⟩⟩ := id ho
  · simp at h0
  · injection e with e1 e2 e3
    subst e1 e3
    have hc := ho.cells (g := g) rfl r.length (.int .i64 (j : Int)) (by simp [ns])
    rw [k_add] at hc
    exact ⟨g, rfl, hn, hc⟩
theorem CyS.push {j g' cap' : Nat} {ob : Obj} (h : CyS w wr a cap ha hcap n into free fa fc) (g1 : (wr.alloc ob).grownBy w2 (Value.slice fa free.length fc).ownBlock)
    (ho : w2.ownsRow (w.heap.size + 3) 3 1 (.slice (some ⟨g', 0, none⟩) (free.length + 1) cap') (free.length + 1) (ns free.reverse ++ [.int .i64 (j : Int)])) : CyS w w2 a cap ha hcap n into (j :: free) (some ⟨g', 0, none⟩) cap' := by
  have h2 := h.on (Ext.alloc wr ob)
  have hk : ∀ i, i < w.heap.size + 3 → i < (wr.alloc ob).heap.size → w2.heap[i]? = (wr.alloc ob).heap[i]? := fun i hi hl => g1.block i hl (fun e => by have := (h2.own.lt i e.symm).1; omega)
  exact ⟨Below.grown h2.ext g1 h2.ext.size (fun j hj => by have := (h2.own.lt j hj).1; omega), (hk _ (by omega) (k_lt h2.rX)).trans h2.rX, (hk _ (by omega) (k_lt h2.rY)).trans h2.rY, (hk _ (by omega) (k_lt h2.rI)).trans h2.rI, h.len, by simpa [ns] using ho⟩
theorem NxR.on (h : NxR w wr fa nb nx) (x : Ext wr w2) : NxR w w2 fa nb nx := h.to fun b hb => ⟨⟨hb.1, Nat.lt_of_lt_of_le hb.2.1 x.size, hb.2.2⟩, x.block b hb.2.1⟩
theorem NxR.setI (h : NxR w wr fa nb nx) (j : Nat) (v : Value) : NxR w (wr.setCell ⟨w.heap.size + 1 + 1, j, none⟩ v) fa nb nx :=
  h.to fun b hb => ⟨⟨hb.1, by simp [World.setCell]; exact hb.2.1, hb.2.2⟩, Below.heap_setCell _ _ _ _ (by have := hb.1; simp only; omega)⟩
theorem NxR.push {g' m c : Nat} {ob : Obj} (h : NxR w wr fa nb nx) (g1 : (wr.alloc ob).grownBy w2 (Value.slice fa m c).ownBlock) (hw : (Value.slice fa m c).ownBlock = some g' ∨ (wr.alloc ob).heap.size ≤ g') : NxR w w2 (some ⟨g', 0, none⟩) nb nx := by
  refine (h.on (Ext.alloc wr ob)).to fun b hb => ⟨⟨hb.1, Nat.lt_of_lt_of_le hb.2.1 g1.size, fun e => ?_⟩, g1.block b hb.2.1 (fun e => hb.2.2 (by rw [obk_eq] at e; exact e.symm))⟩
  simp only [obk, Value.ownBlock, Option.some.injEq] at e
  subst e
  rcases hw with e | e
  · rw [obk_eq] at e
    exact hb.2.2 e
  · have := hb.2.1; omega
theorem NxR.new {w3 : World} (hs : w.heap.size + 3 ≤ wr.heap.size) (hf : ∀ k, obk fa = some k → k < wr.heap.size) (h : RepZ w3 (Fr2 wr w3) nb nx) : NxR w w3 fa nb nx :=
  h.to fun b hb => ⟨⟨Nat.le_trans hs hb.1, hb.2, fun e => by have := hf b e; have := hb.1; omega⟩, rfl⟩
theorem NxR.at {j : Nat} {x : Int} (h : NxR w wr fa nb nx) (hx : nx[j]? = some x) : ∃ b, nb = some ⟨b, 0, none⟩ ∧ wr.cell? ⟨b, j, none⟩ = some (.int .i64 x) := by
  rcases h with h | ⟨b, e, _, hc⟩
  · rw [h] at hx; simp at hx
  · exact ⟨b, e, hc j x hx⟩
theorem CyS.fresh (h : CyS w wr a cap ha hcap n into free fa fc) : w.heap.size + 3 ≤ wr.heap.size ∧ ∀ k, obk fa = some k → k < wr.heap.size :=
  ⟨k_lt h.rI, fun k e => (h.own.lt k (by rw [obk_eq]; exact e)).2⟩
end

end Go.Proofs.YtlgdjeiendmniaaGreatDoor.V

namespace Go.Proofs.YtlgdjeiendmniaaGreatDoor.V
open Go.RowKit

theorem kL1_step (code : List KI) (hs : List Int) {n k : Nat} (hk : k < n) (left : Int) (into : List Int) : kL1 code hs (n - k) k left into = match kCnt code hs k with
    | none => none
    | some false => kL1 code hs (n - (k + 1)) (k + 1) left into
    | some true => match kAdd (kNext code k) into with
      | none => none
      | some into' => kL1 code hs (n - (k + 1)) (k + 1) (left + 1) into' := by
  rw [show n - k = (n - (k + 1)) + 1 by omega, kL1]
  cases kCnt code hs k with
  | none => rfl
  | some b => cases b <;> rfl
theorem kL2_step (code : List KI) (hs into : List Int) {n k : Nat} (hk : k < n) (free : List Nat) : kL2 code hs into (n - k) k free = match kCnt code hs k with
    | none => none
    | some false => kL2 code hs into (n - (k + 1)) (k + 1) free
    | some true => match into[k]? with
      | none => none
      | some x => kL2 code hs into (n - (k + 1)) (k + 1) (if x = 0 then k :: free else free) := by
  rw [show n - k = (n - (k + 1)) + 1 by omega, kL2]
  cases kCnt code hs k with
  | none => rfl
  | some b => cases b <;> rfl

set_option maxHeartbeats 1000000 in
theorem cyc_w (code : List KI) (hs : List Int) (a ha : Option Addr) (cap hcap K : Nat) (r : Bool) (w : World) (hc : RepC w (In w) a code) (hh : RepZ w (In w) ha hs) (hl : hs.length = code.length) (hn : code.length ≤ 1000000) (hK : K ≤ 1000000) (hr : kCyc code hs K = some r) :
    Calls Tryz.prog 46 #[.slice a code.length cap, .slice ha code.length hcap] w fun e w' => e = .returned (.bool r) ∧ Ext w w' := by
  have hmk := fun w => make_ints code.length hn w
  have hmf : ∀ (fn : Fn) (first cap : Array Value) (w : World), (Instr.makeFunc fn first cap).run Tryz.prog w = .ok (.func fn first cap) w := fun _ _ _ _ => rfl
  have HN := hide (fun (W : World) (e : Ext w W) (j : Nat) => next_any code j a cap W (hc.ext e) hn)
  have HCt := hide (fun (W : World) (e : Ext w W) (j : Nat) (r : Bool) (hr : kCnt code hs j = some r) => cnt_any code hs j r a ha cap hcap w.heap.size (w.heap.size + 1) W (hc.ext e) (hh.ext e) hl hn hr)
  unfold kCyc at hr
  cases h1 : kL1 code hs code.length 0 0 (List.replicate code.length 0) with
  | none => rw [h1] at hr; cases hr
  | some q =>
  rw [h1] at hr
  simp only at hr
  obtain ⟨left1, into1⟩ := q
  simp only at hr
  cases h2 : kL2 code hs into1 code.length 0 [] with
  | none => rw [h2] at hr; cases hr
  | some free2 =>
  rw [h2] at hr
  simp only at hr
  cases h4 : kL4 code hs K left1 into1 free2 with
  | none => rw [h4] at hr; cases hr
  | some lf =>
  rw [h4] at hr
  injection hr with hr
  have H1 := hide h1
  have H2 := hide h2
  have H4 := hide h4
  have HR := hide hr
  clear h1 h2 h4 hr hc hh hl
  have hz0 : (zs (List.replicate code.length 0)).toArray = Array.replicate code.length (.int .i64 0) := by simp [zs]
  generalize hN : code.length = n at *
  have HI0 : Hd (CyS w (((w.alloc (.cells #[.slice a n cap] 29)).alloc (.cells #[.slice ha n hcap] 45)).alloc (.cells (zs (List.replicate n 0)).toArray 3)).drew a cap ha hcap n (List.replicate n 0) [] none 0) := by
    have e2 := Ext.alloc (w.alloc (.cells #[.slice a n cap] 29)) (.cells #[.slice ha n hcap] 45)
    have e3 := Ext.alloc ((w.alloc (.cells #[.slice a n cap] 29)).alloc (.cells #[.slice ha n hcap] 45)) (.cells (zs (List.replicate n 0)).toArray 3)
    refine ⟨Ext.drew ((Ext.alloc _ _).trans (e2.trans e3)), ?_, ?_, ?_, by simp, World.ownsRow_nil _ _ _ _⟩
    · exact (e3.block _ (by simp only [heap_alloc_size]; omega)).trans ((e2.block _ (by simp only [heap_alloc_size]; omega)).trans (Go.heap_alloc_new w _))
    · refine (e3.block _ (by simp only [heap_alloc_size]; omega)).trans ?_
      have := Go.heap_alloc_new (w.alloc (.cells #[.slice a n cap] 29)) (.cells #[.slice ha n hcap] 45)
      rw [heap_alloc_size] at this
      exact this
    · have := Go.heap_alloc_new ((w.alloc (.cells #[.slice a n cap] 29)).alloc (.cells #[.slice ha n hcap] 45)) (.cells (zs (List.replicate n 0)).toArray 3)
      rw [heap_alloc_size, heap_alloc_size] at this
      exact this
  rw [hz0] at HI0
  obtain ⟨i0, hi, hz1, hz2, hz3⟩ := k_info
  have HI := hide hi
  have Z0 := hide hz1
  have Z1 := hide hz2
  have Z2 := hide hz3
  clear hi hz1 hz2 hz3 hz0
  go_enter Tryz.func46, Tryz.ntmps46
  go_wp2_with fail
  refine k_nrm ?_
  first | skip; go_region | fail
  all_goals
    simp only [KNrm]
    go_wp2_with fail
    go_loopw [5, 22] (fun t5 t22 wr => ∃ (k : Nat) (left : Int) (into : List Int), t22 = .int .i64 k ∧ t5 = .int .i64 left ∧ k ≤ n ∧ 0 ≤ left ∧ left ≤ k ∧ Hd (kL1 code hs (n - k) k left into = some (left1, into1)) ∧ Hd (CyS w wr a cap ha hcap n into [] none 0)) (fun _ t _ => n - (intOf t).toNat)
    case atStart => exact ⟨0, 0, _, rfl, rfl, by omega, by omega, by omega, H1, HI0⟩
    case round =>
      clear HI0 H1
      obtain ⟨k, left, into, rfl, rfl, hk, hl0, hl1, hE, hI⟩ := hrel
      have cX : wr.cell? ⟨w.heap.size, 0, none⟩ = some (.slice a n cap) := k_rowC (unhide hI).rX 0 rfl
      have cY : wr.cell? ⟨w.heap.size + 1, 0, none⟩ = some (.slice ha n hcap) := k_rowC (unhide hI).rY 0 rfl
      by_cases hlt : k < n
      · have hE2 := unhide hE
        rw [kL1_step code hs hlt] at hE2
        cases hcb : kCnt code hs k with
        | none => rw [hcb] at hE2; cases hE2
        | some cb =>
        have HB := hide hcb
        cases cb with
        | false =>
          rw [hcb] at hE2
          have HE2 := hide hE2
          clear hE2 hcb
          go_wp2_with (go_at_call 72; refine Calls.mono (unhide HCt _ (unhide hI).ext k false (unhide HB) cX cY) ?_; rintro e w4 ⟨rfl, hw⟩; obtain rfl := hw.symm)
          go_roundw
          case rel => exact ⟨k + 1, left, into, by go_num, rfl, by omega, by omega, by omega, HE2, hI⟩
          case measure => simp [intOf]; omega
        | true =>
          rw [hcb] at hE2
          simp only at hE2
          cases hA : kAdd (kNext code k) into with
          | none => rw [hA] at hE2; cases hE2
          | some into' =>
          rw [hA] at hE2
          have HE2 := hide hE2
          have HA := hide hA
          clear hE2 hcb hA
          go_wp2_with (first
            | (go_at_call 72; refine Calls.mono (unhide HCt _ (unhide hI).ext k true (unhide HB) cX cY) ?_; rintro e w4 ⟨rfl, hw⟩; obtain rfl := hw.symm)
            | (go_at_call 70; refine Calls.mono (unhide HN _ (unhide hI).ext k) ?_; rintro e w3 ⟨nb, nc, rfl, r1, r2, r3⟩; have R2 := hide (NxR.new (unhide hI).fresh.1 (unhide hI).fresh.2 r2); have I3 := hide ((unhide hI).on r3); clear r1 r2 r3))
          have hNL := kNext_len code (k : Int)
          generalize hNX : kNext code (k : Int) = NX at *
          go_loopw [34] (fun t wr => ∃ (m : Nat) (it : List Int), t = .int .i64 m ∧ m ≤ NX.length ∧ Hd (kAdd (NX.drop m) it = some into') ∧ Hd (CyS w wr a cap ha hcap n it [] none 0) ∧ Hd (NxR w wr none nb NX)) (fun t _ => NX.length - (intOf t).toNat)
          case atStart => exact ⟨0, into, rfl, by omega, HA, I3, R2⟩
          case round =>
            clear I3 R2 HA hI hE cX cY
            obtain ⟨m, it, rfl, hm, hA, hI, hR⟩ := hrel
            by_cases hlm : m < NX.length
            · have hA2 := unhide hA
              obtain ⟨to, hto⟩ : ∃ to, NX[m]? = some to := ⟨_, List.getElem?_eq_getElem hlm⟩
              have hd : NX.drop m = to :: NX.drop (m + 1) := by
                obtain ⟨h1, h2⟩ := List.getElem?_eq_some_iff.1 hto
                rw [List.drop_eq_getElem_cons h1, h2]
              rw [hd, kAdd] at hA2
              by_cases ht0 : to < 0
              · rw [if_pos ht0] at hA2; cases hA2
              rw [if_neg ht0] at hA2
              obtain ⟨t, rfl⟩ : ∃ t : Nat, to = t := ⟨to.toNat, by omega⟩
              rw [show ((t : Int)).toNat = t by omega] at hA2
              cases hx : it[t]? with
              | none => rw [hx] at hA2; cases hA2
              | some x =>
              rw [hx] at hA2
              simp only at hA2
              by_cases hxb : -1000000 ≤ x ∧ x ≤ 1000000
              · rw [if_pos hxb] at hA2
                have HA2 := hide hA2
                obtain ⟨nbb, rfl, hcell⟩ := (unhide hR).at hto
                have cI : wr.cell? ⟨w.heap.size + 1 + 1, t, none⟩ = some (.int .i64 x) := k_rowC (unhide hI).rI t (rH_at hx)
                have fI := k_rowF (unhide hI).rI t
                have htl : t < n := by rw [← (unhide hI).len]; exact (List.getElem?_eq_some_iff.1 hx).1
                clear hA2 hd hto hx ht0
                go_wp2_with fail
                go_roundw
                case rel => exact ⟨m + 1, _, by go_num, by omega, HA2, (unhide hI).setI t (x + 1), (unhide hR).setI t _⟩
                case measure => simp [intOf]; omega
              · rw [if_neg hxb] at hA2; cases hA2
            · obtain rfl : m = NX.length := by omega
              have hit : Hd (it = into') := by
                have := unhide hA
                rw [List.drop_length, kAdd] at this
                injection this
              go_wp2_with fail
              go_roundw
              case rel => exact ⟨k + 1, left + 1, it, by go_num, by go_num, by omega, by omega, by omega, by rw [unhide hit]; exact HE2, hI⟩
              case measure => simp [intOf]; omega
      · obtain rfl : k = n := by omega
        have hq := unhide hE
        rw [Nat.sub_self, kL1] at hq
        injection hq with hq
        injection hq with hq1 hq2
        subst hq1 hq2
        clear hE hlt hk
        go_wp2_with fail
        go_loopw [11, 48] (fun t11 t48 wr => ∃ (m : Nat) (free : List Nat) (fa : Option Addr) (fc : Nat), t48 = .int .i64 m ∧ t11 = .slice fa free.length fc ∧ m ≤ k ∧ free.length ≤ m ∧ Hd (kL2 code hs into (k - m) m free = some free2) ∧ Hd (CyS w wr a cap ha hcap k into free fa fc)) (fun _ t _ => k - (intOf t).toNat)
        case atStart => exact ⟨0, [], none, 0, rfl, rfl, by omega, by simp, H2, hI⟩
        case round =>
          clear hI cX cY H2
          obtain ⟨m, free, fa, fc, rfl, rfl, hm, hfl, hE, hI⟩ := hrel
          have cX : wr.cell? ⟨w.heap.size, 0, none⟩ = some (.slice a k cap) := k_rowC (unhide hI).rX 0 rfl
          have cY : wr.cell? ⟨w.heap.size + 1, 0, none⟩ = some (.slice ha k hcap) := k_rowC (unhide hI).rY 0 rfl
          by_cases hlt : m < k
          · have hE2 := unhide hE
            rw [kL2_step code hs into hlt] at hE2
            cases hcb : kCnt code hs m with
            | none => rw [hcb] at hE2; cases hE2
            | some cb =>
            have HB := hide hcb
            cases cb with
            | false =>
              rw [hcb] at hE2
              have HE2 := hide hE2
              clear hE2 hcb
              go_wp2_with (go_at_call 72; refine Calls.mono (unhide HCt _ (unhide hI).ext m false (unhide HB) cX cY) ?_; rintro e w4 ⟨rfl, hw⟩; obtain rfl := hw.symm)
              go_roundw
              case rel => exact ⟨m + 1, free, fa, fc, by go_num, rfl, by omega, by omega, HE2, hI⟩
              case measure => simp [intOf]; omega
            | true =>
              rw [hcb] at hE2
              simp only at hE2
              cases hx : into[m]? with
              | none => rw [hx] at hE2; cases hE2
              | some x =>
              rw [hx] at hE2
              simp only at hE2
              have cI : wr.cell? ⟨w.heap.size + 1 + 1, m, none⟩ = some (.int .i64 x) := k_rowC (unhide hI).rI m (rH_at hx)
              by_cases hx0 : x = 0
              · rw [if_pos hx0] at hE2
                have HE2 := hide hE2
                subst hx0
                have HO : Hd (∀ ob, (wr.alloc ob).ownsRow (w.heap.size + 3) 3 1 (.slice fa free.length fc) free.length (ns free.reverse)) := fun ob => ((unhide hI).on (Ext.alloc wr ob)).own
                have HL : Hd (∀ ob, w.heap.size + 3 ≤ (wr.alloc ob).heap.size) := fun ob => Nat.le_trans (unhide hI).fresh.1 (Ext.alloc wr ob).size
                have HP := hide (fun (w2 : World) (ob : Obj) (g' cap' : Nat) => (unhide hI).push (w2 := w2) (ob := ob) (g' := g') (cap' := cap') (j := m))
                clear hE2 hcb hx
                generalize ns free.reverse = XS at HO HP
                go_wp2_with (first
                  | (go_at_call 72; refine Calls.mono (unhide HCt _ (unhide hI).ext m true (unhide HB) cX cY) ?_; rintro e w4 ⟨rfl, hw⟩; obtain rfl := hw.symm)
                  | (at_builtin; refine kapp_list rfl (.tmp 61) (.tmp 63) 45 rfl (w.heap.size + 3) 3 i0 (.int .i64 0) 1 8 Tryz.underlying45 (unhide HI) (unhide Z0) (unhide Z1) (unhide Z2) rfl (by decide) fa free.length fc _ rfl (unhide HO _) ⟨wr.heap.size, 0, none⟩ 1 1 [.int .i64 (m : Int)] rfl (by decide) rfl (k_new _ _ rfl _ _) (k_one_int _) ?c1 ?c2 (unhide HL _) ?_))
                case c1 => unfold maxLen; omega
                case c2 => omega
                intro g' cap' w3 ho hg hw
                have HW := hide (unhide HP w3 _ g' cap' hg ho)
                clear ho hg hw
                go_wp2_with fail
                go_roundw
                case rel => exact ⟨m + 1, m :: free, _, cap', by go_num, rfl, by omega, by simp; omega, HE2, HW⟩
                case measure => simp [intOf]; omega
              · rw [if_neg hx0] at hE2
                have HE2 := hide hE2
                have hxf : (x == 0) = false := by rw [beq_eq_false_iff_ne]; exact hx0
                clear hE2 hcb hx hx0
                go_wp2_with (go_at_call 72; refine Calls.mono (unhide HCt _ (unhide hI).ext m true (unhide HB) cX cY) ?_; rintro e w4 ⟨rfl, hw⟩; obtain rfl := hw.symm)
                go_roundw
                case rel => exact ⟨m + 1, free, fa, fc, by go_num, rfl, by omega, by omega, HE2, hI⟩
                case measure => simp [intOf]; omega
          · obtain rfl : m = k := by omega
            have hq := unhide hE
            rw [Nat.sub_self, kL2] at hq
            injection hq with hq
            subst hq
            clear hE hlt
            go_wp2_with fail
            go_loopg [5, 11] K (fun gk t5 t11 wr => ∃ (lf' : Int) (it : List Int) (fr : List Nat) (fa : Option Addr) (fc : Nat), t5 = .int .i64 lf' ∧ t11 = .slice fa fr.length fc ∧ Hd (kL4 code hs gk lf' it fr = some lf) ∧ Hd (CyS w wr a cap ha hcap m it fr fa fc) ∧ fr.length + 2 * gk ≤ m + 2 * K)
            case atStart => exact ⟨left, into, free, fa, fc, rfl, rfl, H4, hI, by omega⟩
            case round =>
              clear hI cX cY H4
              obtain ⟨lf', it, fr, fa, fc, rfl, rfl, hE, hI, hfl⟩ := hrel
              have cX : wr.cell? ⟨w.heap.size, 0, none⟩ = some (.slice a m cap) := k_rowC (unhide hI).rX 0 rfl
              have cY : wr.cell? ⟨w.heap.size + 1, 0, none⟩ = some (.slice ha m hcap) := k_rowC (unhide hI).rY 0 rfl
              cases gk with
              | zero => have h0 := unhide hE; rw [kL4] at h0; cases h0
              | succ gk =>
              have hE2 := unhide hE
              cases fr with
              | nil =>
                rw [kL4] at hE2
                injection hE2 with hE2
                have HL : Hd (lf' = lf) := hE2
                clear hE2
                go_wp2_with fail
                go_ret
                refine ⟨ret_bool ?_, (unhide hI).ext⟩
                rw [← unhide HR, ← unhide HL]
              | cons j rr =>
                rw [kL4] at hE2
                by_cases hlb : -1000000 ≤ lf' ∧ lf' ≤ 1000000
                · rw [if_pos hlb] at hE2
                  cases hS : kSub code hs (kNext code j) it rr with
                  | none => rw [hS] at hE2; cases hE2
                  | some q =>
                  rw [hS] at hE2
                  have HE2 := hide hE2
                  have HS := hide hS
                  obtain ⟨g, rfl, hgc, hct⟩ := (unhide hI).top
                  have HI1 := hide (unhide hI).pop
                  have hrl : rr.length + 1 + 2 * (gk + 1) ≤ m + 2 * K := by simpa using hfl
                  clear hE2 hS hfl hI
                  simp only [List.length_cons]
                  go_wp2_with (go_at_call 70; refine Calls.mono (unhide HN _ (unhide HI1).ext j) ?_; rintro e w3 ⟨nb, nc, rfl, r1, r2, r3⟩; have R2 := hide (NxR.new (unhide HI1).fresh.1 (unhide HI1).fresh.2 r2); have I3 := hide ((unhide HI1).on r3); clear r1 r2 r3)
                  have hNL := kNext_len code (j : Int)
                  generalize hNX : kNext code (j : Int) = NX at *
                  go_loopw [11, 86] (fun t11 t wr => ∃ (p : Nat) (it' : List Int) (fr : List Nat) (fa : Option Addr) (fc : Nat), t = .int .i64 p ∧ t11 = .slice fa fr.length fc ∧ p ≤ NX.length ∧ fr.length ≤ rr.length + p ∧ Hd (kSub code hs (NX.drop p) it' fr = some q) ∧ Hd (CyS w wr a cap ha hcap m it' fr fa fc) ∧ Hd (NxR w wr fa nb NX)) (fun _ t _ => NX.length - (intOf t).toNat)
                  case atStart => exact ⟨0, it, rr, _, fc, rfl, rfl, by omega, by omega, HS, I3, R2⟩
                  case round =>
                    clear I3 R2 HS HI1 hE cX cY hct
                    obtain ⟨p, it', fr, fa, fc, rfl, rfl, hp, hfr, hS, hI, hR⟩ := hrel
                    have cX : wr.cell? ⟨w.heap.size, 0, none⟩ = some (.slice a m cap) := k_rowC (unhide hI).rX 0 rfl
                    have cY : wr.cell? ⟨w.heap.size + 1, 0, none⟩ = some (.slice ha m hcap) := k_rowC (unhide hI).rY 0 rfl
                    by_cases hlp : p < NX.length
                    · have hA2 := unhide hS
                      obtain ⟨to, hto⟩ : ∃ to, NX[p]? = some to := ⟨_, List.getElem?_eq_getElem hlp⟩
                      have hd : NX.drop p = to :: NX.drop (p + 1) := by
                        obtain ⟨h1, h2⟩ := List.getElem?_eq_some_iff.1 hto
                        rw [List.drop_eq_getElem_cons h1, h2]
                      rw [hd, kSub] at hA2
                      by_cases ht0 : to < 0
                      · rw [if_pos ht0] at hA2; cases hA2
                      rw [if_neg ht0] at hA2
                      obtain ⟨t, rfl⟩ : ∃ t : Nat, to = t := ⟨to.toNat, by omega⟩
                      rw [show ((t : Int)).toNat = t by omega] at hA2
                      cases hx : it'[t]? with
                      | none => rw [hx] at hA2; cases hA2
                      | some x =>
                      rw [hx] at hA2
                      simp only at hA2
                      by_cases hxb : -1000000 ≤ x ∧ x ≤ 1000000
                      · rw [if_pos hxb] at hA2
                        obtain ⟨nbb, rfl, hcell⟩ := (unhide hR).at hto
                        have cI : wr.cell? ⟨w.heap.size + 1 + 1, t, none⟩ = some (.int .i64 x) := k_rowC (unhide hI).rI t (rH_at hx)
                        have fI := k_rowF (unhide hI).rI t
                        have htl : t < m := by rw [← (unhide hI).len]; exact (List.getElem?_eq_some_iff.1 hx).1
                        have I1 := hide ((unhide hI).setI t (x - 1))
                        have R1 := hide ((unhide hR).setI t (.int .i64 (x - 1)))
                        have dX : (wr.setCell ⟨w.heap.size + 1 + 1, t, none⟩ (.int .i64 (x - 1))).cell? ⟨w.heap.size, 0, none⟩ = some (.slice a m cap) := k_rowC (unhide I1).rX 0 rfl
                        have dY : (wr.setCell ⟨w.heap.size + 1 + 1, t, none⟩ (.int .i64 (x - 1))).cell? ⟨w.heap.size + 1, 0, none⟩ = some (.slice ha m hcap) := k_rowC (unhide I1).rY 0 rfl
                        clear hd hto hx ht0 hI hR
                        by_cases hx1 : x - 1 = 0
                        · rw [if_pos hx1] at hA2
                          cases hcb : kCnt code hs t with
                          | none => rw [hcb] at hA2; cases hA2
                          | some cb =>
                          rw [hcb] at hA2
                          simp only at hA2
                          have HB := hide hcb
                          have hxt : ((x - 1) == 0) = true := by simp [hx1]
                          clear hcb hx1
                          cases cb with
                          | false =>
                            have HA2 : Hd (kSub code hs (NX.drop (p + 1)) (it'.set t (x - 1)) fr = some q) := by unfold Hd; simpa using hA2
                            clear hA2
                            go_wp2_with (go_at_call 72; refine Calls.mono (unhide HCt _ (unhide I1).ext t false (unhide HB) dX dY) ?_; rintro e w4 ⟨rfl, hw⟩; obtain rfl := hw.symm)
                            go_roundw
                            case rel => exact ⟨p + 1, _, fr, fa, fc, by go_num, rfl, by omega, by omega, HA2, I1, R1⟩
                            case measure => simp [intOf]; omega
                          | true =>
                            have HA2 : Hd (kSub code hs (NX.drop (p + 1)) (it'.set t (x - 1)) (t :: fr) = some q) := by unfold Hd; simpa using hA2
                            have hZ : (wr.setCell ⟨w.heap.size + 1 + 1, t, none⟩ (.int .i64 (x - 1))).heap.size = wr.heap.size := by simp [World.setCell]
                            have HZ := hide hZ
                            have HO : Hd (∀ ob, ((wr.setCell ⟨w.heap.size + 1 + 1, t, none⟩ (.int .i64 (x - 1))).alloc ob).ownsRow (w.heap.size + 3) 3 1 (.slice fa fr.length fc) fr.length (ns fr.reverse)) := fun ob => ((unhide I1).on (Ext.alloc _ ob)).own
                            have HL : Hd (∀ ob, w.heap.size + 3 ≤ ((wr.setCell ⟨w.heap.size + 1 + 1, t, none⟩ (.int .i64 (x - 1))).alloc ob).heap.size) := fun ob => Nat.le_trans (unhide I1).fresh.1 (Ext.alloc _ ob).size
                            have HP := hide (fun (w2 : World) (ob : Obj) (g' cap' : Nat) => (unhide I1).push (w2 := w2) (ob := ob) (g' := g') (cap' := cap') (j := t))
                            have HQ := hide (fun (w2 : World) (ob : Obj) (g' : Nat) => (unhide R1).push (w2 := w2) (ob := ob) (g' := g') (m := fr.length) (c := fc))
                            clear hA2 hZ
                            generalize ns fr.reverse = XS at HO HP
                            go_wp2_with (first
                              | (go_at_call 72; refine Calls.mono (unhide HCt _ (unhide I1).ext t true (unhide HB) dX dY) ?_; rintro e w4 ⟨rfl, hw⟩; obtain rfl := hw.symm)
                              | (at_builtin; refine kapp_list rfl (.tmp 106) (.tmp 108) 45 rfl (w.heap.size + 3) 3 i0 (.int .i64 0) 1 8 Tryz.underlying45 (unhide HI) (unhide Z0) (unhide Z1) (unhide Z2) rfl (by decide) fa fr.length fc _ rfl (unhide HO _) ⟨wr.heap.size, 0, none⟩ 1 1 [.int .i64 (t : Int)] rfl (by decide) rfl (k_new _ _ (unhide HZ).symm _ _) (k_one_int _) ?c1 ?c2 (unhide HL _) ?_))
                            case c1 => unfold maxLen; omega
                            case c2 => omega
                            intro g' cap' w3 ho hg hw
                            have HW := hide (unhide HP w3 _ g' cap' hg ho)
                            have HV := hide (unhide HQ w3 _ g' hg (hw.imp id (fun e => by rw [heap_alloc_size, unhide HZ]; exact e)))
                            clear ho hg hw
                            go_wp2_with fail
                            go_roundw
                            case rel => exact ⟨p + 1, _, t :: fr, _, cap', by go_num, rfl, by omega, by simp; omega, HA2, HW, HV⟩
                            case measure => simp [intOf]; omega
                        · rw [if_neg hx1] at hA2
                          have HA2 := hide hA2
                          have hxt : ((x - 1) == 0) = false := by rw [beq_eq_false_iff_ne]; exact hx1
                          clear hA2 hx1
                          go_wp2_with fail
                          go_roundw
                          case rel => exact ⟨p + 1, _, fr, fa, fc, by go_num, rfl, by omega, by omega, HA2, I1, R1⟩
                          case measure => simp [intOf]; omega
                      · rw [if_neg hxb] at hA2; cases hA2
                    · obtain rfl : p = NX.length := by omega
                      have hq := unhide hS
                      rw [List.drop_length, kSub] at hq
                      injection hq with hq
                      subst hq
                      go_wp2_with fail
                      go_roundg gk
                      case measure => omega
                      case rel => exact ⟨lf' - 1, it', fr, fa, fc, by go_num, rfl, HE2, hI, by omega⟩
                · rw [if_neg hlb] at hE2; cases hE2

end Go.Proofs.YtlgdjeiendmniaaGreatDoor.V
