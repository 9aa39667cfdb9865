/- The heights of a code. -/
import Derived.Test.YtggpehmljpanjaaStkSc
set_option linter.unusedSimpArgs false
set_option linter.unusedVariables false
set_option maxRecDepth 10000
namespace Go.Proofs.Ytggpehmljpanjaa
open Go.RowKit

/-- While the heights are laid as none. -/
structure HtI (w wr : World) (a : Option Addr) (cap n k : Nat) : Prop where
  ext : Ext w wr
  rB : wr.heap[w.heap.size + 1]? = some (.cells #[.slice a n cap, .slice (some ⟨w.heap.size, 0, none⟩) n n, .slice none 0 0, .bool false] 61 (0, 0))
  rH : wr.heap[w.heap.size]? = some (.cells (zs (List.replicate k (-1) ++ List.replicate (n - k) 0)).toArray 3 (0, 0))

theorem HtI.step {w wr : World} {a : Option Addr} {cap n k : Nat} (h : HtI w wr a cap n k) (hk : k < n) : HtI w (wr.setCell ⟨w.heap.size, k, none⟩ (.int .i64 (-1))) a cap n (k + 1) := by
  refine ⟨h.ext.set (Nat.le_refl _) _, k_row_other h.rB (by omega) _ _, ?_⟩
  rw [k_row_set h.rH k (.int .i64 (-1))]
  congr 2
  have e : List.replicate (n - k) (0 : Int) = 0 :: List.replicate (n - (k + 1)) 0 := by
    rw [show n - k = n - (k + 1) + 1 by omega]; rfl
  rw [e]
  simp only [zs, List.map_append, List.map_replicate, List.map_cons, List.setIfInBounds_toArray]
  rw [List.set_append_right _ _ (by simp)]
  simp [List.replicate_succ']

theorem HtI.done {w wr : World} {a : Option Addr} {cap n : Nat} (h : HtI w wr a cap n n) : WkS w wr (w.heap.size + 1) w.heap.size a cap n ⟨List.replicate n (-1), [], false⟩ none 0 := by
  refine ⟨h.ext, by omega, Nat.le_refl _, by omega, h.rB, ?_, ⟨by simp, by simp, fun x hx => ?_⟩, World.ownsRow_nil _ _ _ _, fun k e => by cases e⟩
  · rw [h.rH]; simp
  · have := List.eq_of_mem_replicate hx
    omega

/-- What heightsOf tells. -/
def HtR (w : World) (n : Nat) (r : Option (List Int)) (e : Ending) (w' : World) : Prop :=
  match r with
  | none => e = .returned (.tuple #[.slice none 0 0, .bool false]) ∧ Ext w w'
  | some hs => hs.length = n ∧ (∀ x ∈ hs, -1 ≤ x ∧ x ≤ 64) ∧ e = .returned (.tuple #[.slice (some ⟨w.heap.size, 0, none⟩) n n, .bool true]) ∧ RepZ w' (Fr2 w w') (some ⟨w.heap.size, 0, none⟩) hs ∧ Ext w w'

/-- At the label. -/
structure HtJ (w wr : World) (a : Option Addr) (cap : Nat) (code : List KI) (K k : Nat) (F : Option (List Int)) (st : KW) (oa : Option Addr) (oc : Nat) : Prop where
  S : WkS w wr (w.heap.size + 1) w.heap.size a cap code.length st oa oc
  eq : (match kRun code k st with | none => none | some st => if st.f then some none else some (some st.hs)) = some F
  len : st.op.length + k ≤ K + 1

theorem WkS.tells {w wr : World} {B : Nat} {a : Option Addr} {cap n : Nat} {st : KW} {oa : Option Addr} {oc : Nat} (S : WkS w wr B w.heap.size a cap n st oa oc) : RepZ wr (Fr2 w wr) (some ⟨w.heap.size, 0, none⟩) st.hs :=
  Or.inr ⟨_, rfl, ⟨Nat.le_refl _, k_lt S.rH⟩, fun j x hx => k_rowC S.rH j (rH_at hx)⟩

set_option maxHeartbeats 1000000 in
theorem heightsOf_w (code : List KI) (a : Option Addr) (cap K : Nat) (F : Option (List Int)) (w : World) (hc : RepC w (In w) a code) (hb : KBd code) (hnb : KNb code) (hn : code.length ≤ 1000000) (hK : K ≤ 8000000) (hF : kHts code K = some F) :
    Calls Try.prog 23 #[.slice a code.length cap] w (HtR w code.length F) := by
  have hmk := make_ints code.length hn w
  have HCm := hide (fun (W : World) (st : KW) (oa : Option Addr) (oc j : Nat) (h : Int) (S : WkS w W (w.heap.size + 1) w.heap.size a cap code.length st oa oc) => come_w w W _ _ a cap code.length st oa oc j h S)
  have HLv := hide (fun (W : World) (st : KW) (oa : Option Addr) (oc j : Nat) (S : WkS w W (w.heap.size + 1) w.heap.size a cap code.length st oa oc) (hj : j < code.length) (h1 : st.op.length ≤ 9000000) => leave_w w W _ _ a cap code st oa oc j S hc hb hnb hj h1 hn)
  have HTk := hide (fun (W : World) (st : KW) (oa : Option Addr) (oc j : Nat) (r : List Nat) (S : WkS w W (w.heap.size + 1) w.heap.size a cap code.length st oa oc) => take_w w W _ _ a cap code.length st oa oc j r S)
  have HF := hide hF
  have HI0 : Hd (HtI w ((w.alloc (.cells (zs (List.replicate code.length 0)).toArray 3)).alloc (.cells #[.slice a code.length cap, .slice (some ⟨w.heap.size, 0, none⟩) code.length code.length, .slice none 0 0, .bool false] 61)) a cap code.length 0) := by
    refine ⟨(Ext.alloc _ _).trans (Ext.alloc _ _), ?_, ?_⟩
    · have := Go.heap_alloc_new (w.alloc (.cells (zs (List.replicate code.length 0)).toArray 3)) (.cells #[.slice a code.length cap, .slice (some ⟨w.heap.size, 0, none⟩) code.length code.length, .slice none 0 0, .bool false] 61)
      rw [heap_alloc_size] at this
      exact this
    · rw [(Ext.alloc _ _).block w.heap.size (by simp), Go.heap_alloc_new]
      simp
  clear hF hc hb hnb
  have hz0 : (zs (List.replicate code.length 0)).toArray = Array.replicate code.length (.int .i64 0) := by simp [zs]
  rw [hz0] at HI0
  clear hz0
  generalize hN : code.length = n at *
  go_enter Try.func23, Try.ntmps23
  go_wp2_with fail
  refine k_scope_two 1 0 (by decide) (fun k a' wr => ∃ (u5 u6 u7 u8 u9 u10 u11 u12 u13 u14 u15 u16 u17 u18 u19 u20 u21 u22 u23 u24 u25 u26 u27 u28 u29 u30 u31 u32 : Value), a' = { tmps := #[.slice a n cap, undef, .slice none 0 0, .bool false, .pointer (some ⟨w.heap.size + 1, 0, none⟩), u5, u6, u7, u8, u9, u10, u11, u12, u13, u14, u15, u16, u17, u18, u19, u20, u21, u22, u23, u24, u25, u26, u27, u28, u29, u30, u31, u32], defers := [] } ∧ ∃ st oa oc, Hd (HtJ w wr a cap code K k F st oa oc)) (fun a' wr => ∃ (u5 u6 u7 u8 u9 u10 u11 u12 u13 u14 u15 u16 u17 u18 u19 u20 u21 u22 u23 u24 u25 u26 u27 u28 u29 u30 u31 u32 : Value), a' = { tmps := #[.slice a n cap, undef, .slice none 0 0, .bool false, .pointer (some ⟨w.heap.size + 1, 0, none⟩), u5, u6, u7, u8, u9, u10, u11, u12, u13, u14, u15, u16, u17, u18, u19, u20, u21, u22, u23, u24, u25, u26, u27, u28, u29, u30, u31, u32], defers := [] } ∧ Hd (F = none ∧ Ext w wr)) rfl rfl ?_ ?_ ?_
  · rintro k a' wr ⟨u5, u6, u7, u8, u9, u10, u11, u12, u13, u14, u15, u16, u17, u18, u19, u20, u21, u22, u23, u24, u25, u26, u27, u28, u29, u30, u31, u32, rfl, st, oa, oc, hJ⟩
    have hE := (unhide hJ).eq
    cases k with
    | zero => rw [kRun] at hE; cases hE
    | succ k =>
    rw [kRun] at hE
    have S := (unhide hJ).S
    rw [hN] at S
    have hlen := (unhide hJ).len
    have c3 : wr.cell? ⟨w.heap.size + 1, 3, none⟩ = some (.bool st.f) := k_rowC S.rB 3 rfl
    have c2 : wr.cell? ⟨w.heap.size + 1, 2, none⟩ = some (.slice oa st.op.length oc) := k_rowC S.rB 2 rfl
    have c1 : wr.cell? ⟨w.heap.size + 1, 1, none⟩ = some (.slice (some ⟨w.heap.size, 0, none⟩) n n) := k_rowC S.rB 1 rfl
    have HS := hide S
    clear S
    cases hf : st.f with
    | true =>
      rw [hf] at hE c3
      have HZ : Hd (F = none ∧ Ext w wr) := by
        simp only [if_pos] at hE
        rw [hf] at hE
        simp at hE
        exact ⟨hE.symm, (unhide HS).ext⟩
      clear hE hf
      go_wp2_with fail
      go_step3
      refine Or.inr ?_
      exact ⟨rfl, _, _, _, _, _, _, _, _, _, _, _, _, _, _, _, _, _, _, _, _, _, _, _, _, _, _, _, _, rfl, HZ⟩
    | false =>
      rw [hf] at hE c3
      cases hop : st.op with
      | nil =>
        rw [hop] at hE c2
        simp only [List.length_nil] at c2
        have HZ : Hd (F = some st.hs) := by
          simp [hf] at hE
          exact hE.symm
        clear hE
        go_wp2_with fail
        simp only [KTwo]
        have hS := unhide HS
        rw [unhide HZ]
        exact bodyPost_ret (v := .tuple #[.slice (some ⟨w.heap.size, 0, none⟩) n n, .bool true]) (by simp [results, Try.results23, go_sem]) rfl ⟨hS.ok.1, hS.ok.2.2, rfl, hS.tells, hS.ext⟩
      | cons j r =>
        rw [hop] at hE c2
        have hj : j < n := (unhide HS).ok.2.1 j (by rw [hop]; exact List.mem_cons_self ..)
        have hol : r.length + 1 + (k + 1) ≤ K + 1 := by have h0 := hlen; rw [hop] at h0; simp at h0; omega
        have HOP := hide hop
        have HF1 := hide hf
        have HEq : Hd ((match kRun code k (kLeave code ⟨st.hs, r, st.f⟩ j) with | none => none | some st => if st.f then some none else some (some st.hs)) = some F) := by
          simp at hE
          rw [hf]
          exact hE
        have hlv := (kLeave_len code ⟨st.hs, r, st.f⟩ j).2
        have HL2 := hide hlv
        simp only [List.length_cons] at c2
        clear hE hf hop hlen hlv
        go_wp2_with (first
          | (go_at_call 31; refine Calls.mono (unhide HTk wr st oa oc j r (unhide HS) (unhide HOP) ?h1) ?_; rotate_left 1; rintro e w1 ⟨rfl, oa1, oc1, s1⟩; have S1 := hide s1; clear s1)
          | (go_at_call 30; refine Calls.mono (unhide HLv w1 ⟨st.hs, r, st.f⟩ oa1 oc1 j (unhide S1) hj ?h2) ?_; rotate_left 1; rintro e w2 ⟨rfl, oa2, oc2, s2, f2⟩; have S2 := hide s2; clear s2 f2))
        case h1 => rw [unhide HOP]; simp; omega
        case h2 => show r.length ≤ _; omega
        go_step3
        refine Or.inl ?_
        refine ⟨rfl, k, by omega, _, _, _, _, _, _, _, _, _, _, _, _, _, _, _, _, _, _, _, _, _, _, _, _, _, _, _, _, rfl, _, oa2, oc2, ⟨by rw [hN]; exact unhide S2, unhide HEq, ?_⟩⟩
        have h0 := unhide HL2
        omega
  · rintro a' wr ⟨u5, u6, u7, u8, u9, u10, u11, u12, u13, u14, u15, u16, u17, u18, u19, u20, u21, u22, u23, u24, u25, u26, u27, u28, u29, u30, u31, u32, rfl, hJ⟩
    go_wp2_with fail
    simp only [Exit.noGoto]
    have hz := unhide hJ
    rw [hz.1]
    exact bodyPost_ret (v := .tuple #[.slice none 0 0, .bool false]) (by simp [results, Try.results23, go_sem]) rfl ⟨rfl, hz.2⟩
  · intro HJ1
    have H1 := hide HJ1
    clear HJ1
    go_wp2_with fail
    go_loopw [14] (fun t wr => ∃ (k : Nat), t = .int .i64 k ∧ k ≤ n ∧ Hd (HtI w wr a cap n k)) (fun t _ => n - (intOf t).toNat)
    case atStart => exact ⟨0, rfl, by omega, HI0⟩
    case round =>
      obtain ⟨k, rfl, hk, hI⟩ := hrel
      have c1 : wr.cell? ⟨w.heap.size + 1, 1, none⟩ = some (.slice (some ⟨w.heap.size, 0, none⟩) n n) := k_rowC (unhide hI).rB 1 rfl
      by_cases hlt : k < n
      · have cx : wr.cell? ⟨w.heap.size, k, none⟩ = some (.int .i64 0) := k_rowC (unhide hI).rH k (rH_at (by
          rw [List.getElem?_append_right (by simp), List.length_replicate, Nat.sub_self, List.getElem?_replicate, if_pos (by omega)]))
        have fx := k_rowF (unhide hI).rH k
        go_wp2_with fail
        go_roundw
        case rel => exact ⟨k + 1, by go_num, by omega, (unhide hI).step hlt⟩
        case measure => simp [intOf]; omega
      · obtain rfl : k = n := by omega
        have S0 := hide (unhide hI).done
        go_wp2_with (go_at_call 29; refine Calls.mono (unhide HCm wr _ none 0 0 0 (unhide S0) (by simp) hn (by omega)) ?_; rintro e w1 ⟨rfl, oa1, oc1, s1, f1⟩; have S1 := hide s1; clear s1 f1)
        refine wp_label ?_
        rename_i hKK
        refine hKK _ _ (unhide H1 K _ _ ⟨_, _, _, _, _, _, _, _, _, _, _, _, _, _, _, _, _, _, _, _, _, _, _, _, _, _, _, _, rfl, _, oa1, oc1, ⟨by rw [hN]; exact unhide S1, ?_, ?_⟩⟩)
        · have h0 := unhide HF
          unfold kHts at h0
          rw [hN] at h0
          exact h0
        · have h0 := (kCome_len k ⟨List.replicate k (-1), [], false⟩ ((0 : Nat) : Int) 0).2
          simp only [List.length_nil] at h0
          omega

end Go.Proofs.Ytggpehmljpanjaa
