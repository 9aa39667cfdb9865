/- The least entry on a way up; the way is made short. -/
import Derived.Test.YtpfjafjpijmckaaGrCl
import Derived.StillTailTactics
set_option linter.unusedSimpArgs false
set_option linter.unusedVariables false
set_option maxRecDepth 10000
namespace Go.Proofs.Ytpfjafjpijmckaa
open Go.RowKit

/-- What a step of a climb answers. -/
def ClE (w0 : World) (C Nb U L E n m : Nat) (x : Nat) (c : GC) (e : Ending) (w' : World) : Prop := e = .returned (.int .i64 (x : Int)) ∧ ∃ wa wc, ClS w0 w' C Nb U L E n m c wa wc

/-- On the way up. -/
structure UpI (w0 wr : World) (C Nb U L E n m : Nat) (c : GC) (b K k p : Nat) (way F : List Nat) (wa : Option Addr) (wc : Nat) : Prop where
  S : ClS w0 wr C Nb U L E n m ⟨c.num, c.up, c.low, c.ent, way⟩ wa wc
  eq : gUp c.up b k p way = some F
  ln : way.length + k ≤ K
/-- The way is made short, from its end on. -/
structure PsI (w0 wr : World) (C Nb U L E n m : Nat) (c : GC) (j : Nat) (way up low up2 low2 : List Nat) (wa : Option Addr) (wc : Nat) : Prop where
  S : ClS w0 wr C Nb U L E n m ⟨c.num, up, low, c.ent, way⟩ wa wc
  eq : gPress (way.take j).reverse up low = some (up2, low2)
theorem take_rev {l : List Nat} {j x : Nat} (h : l[j]? = some x) : (l.take (j + 1)).reverse = x :: (l.take j).reverse := by
  rw [List.take_add_one, h]
  simp
theorem own_at {w : World} {base n : Nat} {a : Option Addr} {c : Nat} {l : List Nat} (h : w.ownsRow base 3 1 (.slice a n c) n (ns l)) {j x : Nat} (hj : l[j]? = some x) : ∃ g, a = some ⟨g, 0, none⟩ ∧ n ≤ c ∧ w.cell? ⟨g, j, none⟩ = some (.int .i64 (x : Int)) := by
  rcases id h.2 with ⟨e, h0⟩ | ⟨g, cap, cur, e, hb, hg, hn, _⟩
  · have h1 := h.1
    rw [h0] at h1
    have : l = [] := by simpa [ns] using h1
    subst this
    simp at hj
  · injection e with e1 e2 e3
    subst e1 e3
    have := h.cells (g := g) rfl j (.int .i64 (x : Int)) (by simp [ns, hj])
    rw [k_add] at this
    exact ⟨g, rfl, hn, this⟩
theorem min_cast (a b : Nat) : ((min a b : Nat) : Int) = if (a : Int) ≤ (b : Int) then (a : Int) else (b : Int) := by
  split <;> omega

theorem fr118 (T : Array Value) (h : T.size = 118) : ∃ u : Nat → Value, T = #[u 0, u 1, u 2, u 3, u 4, u 5, u 6, u 7, u 8, u 9, u 10, u 11, u 12, u 13, u 14, u 15, u 16, u 17, u 18, u 19, u 20, u 21, u 22, u 23, u 24, u 25, u 26, u 27, u 28, u 29, u 30, u 31, u 32, u 33, u 34, u 35, u 36, u 37, u 38, u 39, u 40, u 41, u 42, u 43, u 44, u 45, u 46, u 47, u 48, u 49, u 50, u 51, u 52, u 53, u 54, u 55, u 56, u 57, u 58, u 59, u 60, u 61, u 62, u 63, u 64, u 65, u 66, u 67, u 68, u 69, u 70, u 71, u 72, u 73, u 74, u 75, u 76, u 77, u 78, u 79, u 80, u 81, u 82, u 83, u 84, u 85, u 86, u 87, u 88, u 89, u 90, u 91, u 92, u 93, u 94, u 95, u 96, u 97, u 98, u 99, u 100, u 101, u 102, u 103, u 104, u 105, u 106, u 107, u 108, u 109, u 110, u 111, u 112, u 113, u 114, u 115, u 116, u 117] := by
  refine ⟨fun i => T.getD i undef, ?_⟩
  have e : T = ((List.range T.size).map (fun i => T.getD i undef)).toArray := by
    apply Array.ext
    · simp
    · intro i h1 h2
      simp [h1]
  rw [h] at e
  exact e

set_option maxHeartbeats 8000000 in
theorem lowest_w (w0 w : World) (C Nb U L E n m : Nat) (c : GC) (wa : Option Addr) (wc : Nat) (a b K x : Nat) (c' : GC) (hS : ClS w0 w C Nb U L E n m c wa wc) (hm : m ≤ 1000000) (hK : K ≤ 8000000) (hF : gLow K c a b = some (x, c')) :
    Calls Try.prog 49 #[.pointer (some ⟨C, 0, none⟩), .int .i64 (a : Int), .int .i64 (b : Int)] w (ClE w0 C Nb U L E n m x c') := by
  unfold gLow at hF
  have HS := hide hS
  by_cases h0 : a ≤ b
  · rw [if_pos h0] at hF
    injection hF with hF
    injection hF with hF1 hF2
    subst hF1 hF2
    clear hS
    go_enter Try.func49, Try.ntmps49
    go_wp2_with fail
    refine k_scope_loop 0 (fun _ _ _ => False) rfl (fun _ _ _ h => h.elim) ?_
    intro _
    go_wp2_with fail
    simp only [Exit.jump]
    go_ret
    exact ⟨rfl, _, _, unhide HS⟩
  · rw [if_neg h0] at hF
    cases hU : gUp c.up b K a [] with
    | none => rw [hU] at hF; cases hF
    | some way =>
    rw [hU] at hF
    simp only at hF
    cases hP : gPress way.reverse c.up c.low with
    | none => rw [hP] at hF; cases hF
    | some ul =>
    obtain ⟨up2, low2⟩ := ul
    rw [hP] at hF
    simp only at hF
    cases hx : low2[a]? with
    | none => rw [hx] at hF; cases hF
    | some x0 =>
    rw [hx] at hF
    injection hF with hF
    injection hF with hF1 hF2
    subst hF1 hF2
    have c4 : w.cell? ⟨C, 4, none⟩ = some (.slice wa c.way.length wc) := hS.rC.cell 4 rfl
    have f4 := k_rowF hS.rC 4
    have HC := hide hS.cut
    have HU0 : Hd (UpI w0 (w.setCell ⟨C, 4, none⟩ (.slice wa 0 wc)) C Nb U L E n m c b K K a [] way wa wc) := ⟨hS.cut, hU, by simp⟩
    have hcap : c.way.length ≤ wc := by
      rcases hS.oW.2 with ⟨e, h⟩ | ⟨g, cap2, cur, e, _, _, h, _⟩
      · omega
      · injection e with _ _ e3; omega
    have HP := hide hP
    have HX := hide hx
    have HK := hide hK
    obtain ⟨i0, hi, hz0, hz1, hz2⟩ := k_info
    have HI := hide hi
    have Z0 := hide hz0
    have Z1 := hide hz1
    have Z2 := hide hz2
    have hab : (b : Int) < (a : Int) := by omega
    clear hi hz0 hz1 hz2 hS hU hP hx h0 hK
    go_enter Try.func49, Try.ntmps49
    go_wp2_with fail
    refine k_scope_loop 0 (fun k a' wr => ∃ (p : Nat) (wy : List Nat) (wa : Option Addr) (wc : Nat), a'.defers = [] ∧ a'.tmps.size = 118 ∧ a'.tmps[0]? = some (.pointer (some ⟨C, 0, none⟩)) ∧ a'.tmps[1]? = some (.int .i64 (a : Int)) ∧ a'.tmps[2]? = some (.int .i64 (b : Int)) ∧ a'.tmps[7]? = some (.int .i64 (p : Int)) ∧ Hd (UpI w0 wr C Nb U L E n m c b K k p wy way wa wc)) rfl ?_ ?_
    · rintro k ⟨T, d⟩ wr ⟨p, wy, wa, wc, hd, hT, h0, h1, h2, h7, hJ⟩
      obtain rfl : d = [] := hd
      obtain ⟨u, rfl⟩ := fr118 T hT
      have e0 : u 0 = .pointer (some ⟨C, 0, none⟩) := Option.some.inj h0
      have e1 : u 1 = .int .i64 (a : Int) := Option.some.inj h1
      have e2 : u 2 = .int .i64 (b : Int) := Option.some.inj h2
      have e7 : u 7 = .int .i64 (p : Int) := Option.some.inj h7
      rw [e0, e1, e2, e7]
      clear e0 e1 e2 e7 h0 h1 h2 h7 hT
      have hE := (unhide hJ).eq
      cases k with
      | zero => rw [gUp] at hE; cases hE
      | succ k =>
      rw [gUp] at hE
      cases hup : c.up[p]? with
      | none => rw [hup] at hE; cases hE
      | some q =>
      rw [hup] at hE
      simp only at hE
      have hpm : p < m := by rw [← (unhide hJ).S.len.2.1]; exact (List.getElem?_eq_some_iff.1 hup).1
      have c1 : wr.cell? ⟨C, 1, none⟩ = some (slV U m) := (unhide hJ).S.rC.cell 1 rfl
      have cp := (unhide hJ).S.rU.cell p (ns_at hup)
      have hln := (unhide hJ).ln
      by_cases hbq : b < q
      · rw [if_pos hbq] at hE
        have hbq' : (b : Int) < (q : Int) := by omega
        have c4 : wr.cell? ⟨C, 4, none⟩ = some (.slice wa wy.length wc) := (unhide hJ).S.rC.cell 4 rfl
        have HO : Hd (∀ ob, (wr.alloc ob).ownsRow w0.heap.size 3 1 (.slice wa wy.length wc) wy.length (ns wy)) := fun ob => ((unhide hJ).S.on (Ext.alloc _ ob)).oW
        have HLe := hide (unhide hJ).S.ext.size
        have HPush := hide (fun (w3 : World) (ob : Obj) (g' cap' : Nat) => (unhide hJ).S.pushW (w3 := w3) (ob := ob) (g' := g') (cap' := cap') p)
        have HrC := hide (fun (w3 : World) (ob : Obj) (h : (wr.alloc ob).grownBy w3 (Value.slice wa wy.length wc).ownBlock) => Row.grown ((unhide hJ).S.on (Ext.alloc _ ob)).rC h (fun e => ((unhide hJ).S.aW C (by rw [obk_eq] at e; exact e.symm)).1 rfl))
        have HUp := hide hup
        have HE := hide hE
        clear hup hE
        go_wp2_with (at_builtin; refine kapp_list rfl (.tmp 35) (.tmp 37) 22 rfl w0.heap.size 3 i0 (.int .i64 0) 1 8 Try.underlying22 (unhide HI) (unhide Z0) (unhide Z1) (unhide Z2) rfl (by decide) wa wy.length wc _ rfl (unhide HO _) ⟨wr.heap.size, 0, none⟩ 1 1 [.int .i64 (p : Int)] rfl (by decide) rfl (k_new _ _ rfl _ _) (k_one_int _) ?c1 ?c2 ?c3 ?_)
        case c1 => have := unhide HK; unfold maxLen; omega
        case c2 => have := unhide HK; omega
        case c3 => have := unhide HLe; have := (Ext.alloc wr (.cells #[.int .i64 (p : Int)] 3)).size; omega
        intro g' cap' w3 ho hg hw
        have S3 := hide (unhide HPush w3 _ g' cap' hg ho (hw.imp id (fun e => by have := e; omega)))
        have hrC := unhide HrC w3 _ hg
        have fz := k_rowF hrC 4
        have d4 : w3.cell? ⟨C, 4, none⟩ = some (.slice wa wy.length wc) := hrC.cell 4 rfl
        have d1 : (w3.setCell ⟨C, 4, none⟩ (.slice (some ⟨g', 0, none⟩) (wy.length + 1) cap')).cell? ⟨C, 1, none⟩ = some (slV U m) := (unhide S3).rC.cell 1 rfl
        have dp : (w3.setCell ⟨C, 4, none⟩ (.slice (some ⟨g', 0, none⟩) (wy.length + 1) cap')).cell? ⟨U, p, none⟩ = some (.int .i64 (q : Int)) := (unhide S3).rU.cell p (ns_at (unhide HUp))
        clear ho hg hw hrC
        go_wp2_with fail
        go_step3
        refine ⟨rfl, k, by omega, q, _, _, _, rfl, rfl, rfl, rfl, rfl, rfl, ⟨unhide S3, unhide HE, ?_⟩⟩
        simp only [List.length_append, List.length_cons, List.length_nil]; omega
      · rw [if_neg hbq] at hE
        injection hE with hE
        subst hE
        have hbq' : (q : Int) ≤ (b : Int) := by omega
        have c4 : wr.cell? ⟨C, 4, none⟩ = some (.slice wa wy.length wc) := (unhide hJ).S.rC.cell 4 rfl
        have HJ0 : Hd (PsI w0 wr C Nb U L E n m c wy.length wy c.up c.low up2 low2 wa wc) := ⟨(unhide hJ).S, by rw [List.take_length]; exact unhide HP⟩
        have hwl : wy.length ≤ 8000000 := by have := unhide HK; omega
        clear hup
        go_wp2_with fail
        go_loopw [7, 8] (fun t7 t8 wq => ∃ (j : Nat) (y : Int) (up low : List Nat), t8 = .int .i64 y ∧ y + 1 = (j : Int) ∧ j ≤ wy.length ∧ Hd (PsI w0 wq C Nb U L E n m c j wy up low up2 low2 wa wc)) (fun _ t _ => (intOf t + 1).toNat)
        case atStart => exact ⟨wy.length, (wy.length : Int) - 1, _, _, by go_num, by omega, by omega, HJ0⟩
        case round =>
          clear c1 cp c4 HJ0
          obtain ⟨j, y, up, low, rfl, hy, hj, hI⟩ := hrel
          have c1 : wr.cell? ⟨C, 1, none⟩ = some (slV U m) := (unhide hI).S.rC.cell 1 rfl
          have c2 : wr.cell? ⟨C, 2, none⟩ = some (slV L m) := (unhide hI).S.rC.cell 2 rfl
          have c4 : wr.cell? ⟨C, 4, none⟩ = some (.slice wa wy.length wc) := (unhide hI).S.rC.cell 4 rfl
          cases j with
          | zero =>
            obtain rfl : y = -1 := by omega
            have HQ : Hd (up = up2 ∧ low = low2) := by
              have := (unhide hI).eq
              rw [List.take_zero, List.reverse_nil, gPress] at this
              simp at this
              exact this
            have ham : a < m := by rw [← (unhide hI).S.len.2.2.1, (unhide HQ).2]; exact (List.getElem?_eq_some_iff.1 (unhide HX)).1
            have cx := (unhide hI).S.rL.cell a (ns_at (by rw [(unhide HQ).2]; exact unhide HX))
            go_wp2_with fail
            simp only [Exit.jump]
            go_ret
            have hS := (unhide hI).S
            rw [(unhide HQ).1, (unhide HQ).2] at hS
            exact ⟨rfl, _, _, hS⟩
          | succ j =>
            obtain rfl : y = (j : Int) := by omega
            obtain ⟨q0, hq0⟩ : ∃ q0, wy[j]? = some q0 := ⟨_, List.getElem?_eq_getElem (by omega)⟩
            have heq := (unhide hI).eq
            rw [take_rev hq0, gPress] at heq
            cases hl1 : low[q0]? with
            | none => rw [hl1] at heq; cases heq
            | some a1 =>
            cases hu1 : up[q0]? with
            | none => rw [hl1, hu1] at heq; cases heq
            | some u1 =>
            rw [hl1, hu1] at heq
            simp only at heq
            cases hl2 : low[u1]? with
            | none => rw [hl2] at heq; cases heq
            | some b1 =>
            cases hu2 : up[u1]? with
            | none => rw [hl2, hu2] at heq; cases heq
            | some v1 =>
            rw [hl2, hu2] at heq
            simp only at heq
            have HEq := hide heq
            obtain ⟨wg, rfl, hwc, hcw⟩ := own_at (unhide hI).S.oW hq0
            have hqm : q0 < m := by rw [← (unhide hI).S.len.2.1]; exact (List.getElem?_eq_some_iff.1 hu1).1
            have hum : u1 < m := by rw [← (unhide hI).S.len.2.1]; exact (List.getElem?_eq_some_iff.1 hu2).1
            have x1 := (unhide hI).S.rL.cell q0 (ns_at hl1)
            have x2 := (unhide hI).S.rU.cell q0 (ns_at hu1)
            have x3 := (unhide hI).S.rL.cell u1 (ns_at hl2)
            have fL := k_rowF (unhide hI).S.rL q0
            have fU := k_rowF (unhide hI).S.rU q0
            have hlj : j < wy.length := by omega
            have Hu1 := hide hu1
            have Hu2 := hide hu2
            clear heq hl1 hu1 hl2 hu2 hq0
            by_cases hle : a1 ≤ b1
            · have HMin : Hd (min a1 b1 = a1) := Nat.min_eq_left hle
              have hle' : (a1 : Int) ≤ (b1 : Int) := by omega
              have HS1 := hide (((unhide hI).S.setL q0 a1).on (Ext.drew (Ext.refl _)))
              go_wp2_with fail
              go_still_tail 27, (by kernel_rfl)
              change wpList _ _ _ _ _ (World.drew wr)
              go_wp2_with fail
              clear x1 x2 x3 fL fU c1 c2 c4 hcw
              obtain ⟨W1, hW1⟩ : ∃ W1, W1 = (wr.setCell ⟨L, q0, none⟩ (.int .i64 (a1 : Int))).drew := ⟨_, rfl⟩
              rw [← hW1] at HS1 ⊢
              clear hW1
              have d1 : W1.cell? ⟨C, 1, none⟩ = some (slV U m) := (unhide HS1).rC.cell 1 rfl
              have d2 := (unhide HS1).rU.cell q0 (ns_at (unhide Hu1))
              have d3 := (unhide HS1).rU.cell u1 (ns_at (unhide Hu2))
              have fU := k_rowF (unhide HS1).rU q0
              have HS2 := hide (((unhide HS1).setU q0 v1).on (Ext.drew (Ext.refl _)))
              go_still_tail 19, (by kernel_rfl)
              change wpList _ _ _ _ _ (World.drew W1)
              go_wp2_with fail
              go_roundw
              case rel => exact ⟨j, (j : Int) - 1, _, _, by go_num, by omega, by omega, ⟨unhide HS2, by rw [unhide HMin] at HEq; exact unhide HEq⟩⟩
              case measure => simp [intOf]
            · have HMin : Hd (min a1 b1 = b1) := Nat.min_eq_right (by omega)
              have hle' : ¬ (a1 : Int) ≤ (b1 : Int) := by omega
              have HS1 := hide (((unhide hI).S.setL q0 b1).on (Ext.drew (Ext.refl _)))
              go_wp2_with fail
              go_still_tail 27, (by kernel_rfl)
              change wpList _ _ _ _ _ (World.drew wr)
              go_wp2_with fail
              clear x1 x2 x3 fL fU c1 c2 c4 hcw
              obtain ⟨W1, hW1⟩ : ∃ W1, W1 = (wr.setCell ⟨L, q0, none⟩ (.int .i64 (b1 : Int))).drew := ⟨_, rfl⟩
              rw [← hW1] at HS1 ⊢
              clear hW1
              have d1 : W1.cell? ⟨C, 1, none⟩ = some (slV U m) := (unhide HS1).rC.cell 1 rfl
              have d2 := (unhide HS1).rU.cell q0 (ns_at (unhide Hu1))
              have d3 := (unhide HS1).rU.cell u1 (ns_at (unhide Hu2))
              have fU := k_rowF (unhide HS1).rU q0
              have HS2 := hide (((unhide HS1).setU q0 v1).on (Ext.drew (Ext.refl _)))
              go_still_tail 19, (by kernel_rfl)
              change wpList _ _ _ _ _ (World.drew W1)
              go_wp2_with fail
              go_roundw
              case rel => exact ⟨j, (j : Int) - 1, _, _, by go_num, by omega, by omega, ⟨unhide HS2, by rw [unhide HMin] at HEq; exact unhide HEq⟩⟩
              case measure => simp [intOf]
    · intro HJ1
      have H1 := hide HJ1
      clear HJ1
      go_wp2_with fail
      refine wp_label ?_
      rename_i hKK
      refine hKK _ _ (unhide H1 K _ _ ⟨a, [], wa, wc, rfl, rfl, rfl, rfl, rfl, rfl, HU0⟩)

end Go.Proofs.Ytpfjafjpijmckaa
