/- cmp.Compare and cmp.Or of numbers; in which order those stand that hold registers. -/
import Derived.Test.YtjopfpchbakggaaCoB
import Derived.StillTailTactics
set_option linter.unusedSimpArgs false
set_option linter.unusedVariables false
set_option maxRecDepth 10000
namespace Go.Proofs.Ytjopfpchbakggaa
open Go.RowKit

def cI (a b : Int) : Int := if a < b then -1 else if b < a then 1 else 0
def orI : List Int → Int
  | [] => 0
  | x :: r => if x ≠ 0 then x else orI r
theorem nan_w (x : Int) (w : World) : Calls Try.prog 21 #[.int .i64 x] w fun e w' => e = .returned (.bool false) ∧ w' = w := by
  go_enter Try.func21, Try.ntmps21
  go_wp2_with fail
  go_ret
  exact ⟨by simp, rfl⟩
theorem cmp_w (x y : Int) (w : World) : Calls Try.prog 15 #[.int .i64 x, .int .i64 y] w fun e w' => e = .returned (.int .i64 (cI x y)) ∧ w' = w := by
  have H1 := hide (fun x W => nan_w x W)
  by_cases h1 : x < y
  · have hc : cI x y = -1 := by unfold cI; rw [if_pos h1]
    have HC := hide hc
    clear hc
    go_enter Try.func15, Try.ntmps15
    go_wp2_with (go_at_call 21; refine Calls.mono (unhide H1 _ _) ?_; rintro e w1 ⟨rfl, rfl⟩)
    go_ret
    exact ⟨by rw [unhide HC]; rfl, rfl⟩
  · by_cases h2 : y < x
    · have hc : cI x y = 1 := by unfold cI; rw [if_neg h1, if_pos h2]
      have HC := hide hc
      clear hc
      go_enter Try.func15, Try.ntmps15
      go_wp2_with (go_at_call 21; refine Calls.mono (unhide H1 _ _) ?_; rintro e w1 ⟨rfl, rfl⟩)
      go_ret
      exact ⟨by rw [unhide HC]; rfl, rfl⟩
    · have hc : cI x y = 0 := by unfold cI; rw [if_neg h1, if_neg h2]
      have HC := hide hc
      clear hc
      go_enter Try.func15, Try.ntmps15
      go_wp2_with (go_at_call 21; refine Calls.mono (unhide H1 _ _) ?_; rintro e w1 ⟨rfl, rfl⟩)
      go_ret
      exact ⟨by rw [unhide HC]; rfl, rfl⟩

set_option maxHeartbeats 2000000 in
theorem or_w (l : List Int) (a : Option Addr) (c : Nat) (w : World) (hl : l.length ≤ 1000) (hr : RepI w (In w) a l) : Calls Try.prog 14 #[.slice a l.length c] w fun e w' => e = .returned (.int .i64 (orI l)) ∧ Ext w w' := by
  have HR := hide hr
  clear hr
  go_enter Try.func14, Try.ntmps14
  go_wp2_with fail
  go_loopw [8] (fun t wr => ∃ (j : Nat), t = .int .i64 (j : Int) ∧ j ≤ l.length ∧ Hd (Ext w wr) ∧ Hd (orI (l.drop j) = orI l)) (fun t _ => l.length - (intOf t).toNat)
  case atStart => exact ⟨0, rfl, by omega, Ext.refl _, by simp [Hd]⟩
  case round =>
    obtain ⟨j, rfl, hj, hX, hE⟩ := hrel
    by_cases hlt : j < l.length
    · have hlt2 : (j : Int) < (l.length : Int) := by omega
      obtain ⟨x, hx⟩ : ∃ x, l[j]? = some x := ⟨_, List.getElem?_eq_getElem hlt⟩
      obtain ⟨b, o, rfl, _, cx⟩ := ((unhide HR).ext (unhide hX)).at hx
      have hd : orI l = if x ≠ 0 then x else orI (l.drop (j + 1)) := by
        rw [← unhide hE, List.drop_eq_getElem_cons hlt, (List.getElem?_eq_some_iff.1 hx).2, orI]
      clear hx
      by_cases hx0 : x = 0
      · have HD : Hd (orI l = orI (l.drop (j + 1))) := by
          have h := hd
          rw [if_neg (by simpa using hx0)] at h
          exact h
        subst hx0
        clear hd
        go_wp2_with fail
        go_roundw
        case rel => exact ⟨j + 1, by go_num, by omega, unhide hX, (unhide HD).symm⟩
        case measure => simp [intOf]; omega
      · have HD : Hd (orI l = x) := by
          have h := hd
          rw [if_pos hx0] at h
          exact h
        clear hd
        go_wp2_with fail
        go_ret
        exact ⟨by rw [unhide HD]; rfl, unhide hX⟩
    · have hlt2 : ¬ (j : Int) < (l.length : Int) := by omega
      obtain rfl : j = l.length := by omega
      have HD : Hd (orI l = 0) := by
        have h := unhide hE
        rw [List.drop_length] at h
        exact h.symm
      go_wp2_with fail
      go_ret
      exact ⟨by rw [unhide HD]; rfl, unhide hX⟩

theorem box3 (w : World) (p q r : Int) : RepI (w.alloc (.cells #[.int .i64 p, .int .i64 q, .int .i64 r] 3)) (In (w.alloc (.cells #[.int .i64 p, .int .i64 q, .int .i64 r] 3))) (some ⟨w.heap.size, 0, none⟩) [p, q, r] := by
  refine Or.inr ⟨w.heap.size, 0, rfl, show w.heap.size < _ by rw [World.size_alloc]; omega, fun j x hx => ?_⟩
  have e : #[Value.int .i64 p, .int .i64 q, .int .i64 r] = (([p, q, r] : List Int).map (Value.int .i64)).toArray := rfl
  rw [Nat.zero_add]
  refine cell_box w _ 3 j ?_
  rw [e, List.getElem?_toArray, List.getElem?_map, hx]
  rfl
/-- Of two places in the list: the end, the register, the place itself. -/
def kC (L : List Iv) (a b : Nat) : Int := orI [cI (ivA L a).e (ivA L b).e, cI (ivA L a).r (ivA L b).r, cI (a : Int) (b : Int)]

set_option maxHeartbeats 2000000 in
theorem key_w (L : List Iv) (a : Option Addr) (cap : Nat) (bx i j : Nat) (w : World) (hi : i < L.length) (hj : j < L.length) (hr : RepI w (In w) a (tpI (ivT L))) (hb : Row w bx 22 [.slice a L.length cap]) : Calls Try.prog 13 #[.int .i64 (i : Int), .int .i64 (j : Int), .pointer (some ⟨bx, 0, none⟩)] w fun e w' => e = .returned (.int .i64 (kC L i j)) ∧ Ext w w' := by
  obtain ⟨p0, p1, p2⟩ := tpI_at (ivT_at hi)
  obtain ⟨q0, q1, q2⟩ := tpI_at (ivT_at hj)
  obtain ⟨pb, po, rfl, _, x0⟩ := hr.at p0
  obtain ⟨pb', po', e1, _, x2⟩ := hr.at p2
  injection e1 with e1; injection e1 with e1 e2; subst e1 e2
  obtain ⟨pb', po', e1, _, y0⟩ := hr.at q0
  injection e1 with e1; injection e1 with e1 e2; subst e1 e2
  obtain ⟨pb', po', e1, _, y2⟩ := hr.at q2
  injection e1 with e1; injection e1 with e1 e2; subst e1 e2
  simp only [← Nat.add_assoc, Nat.zero_add] at x0 x2 y0 y2
  have z0 := hb.cell 0 rfl
  have hi2 : (i : Int) < (L.length : Int) := by omega
  have hj2 : (j : Int) < (L.length : Int) := by omega
  have HK : Hd (kC L i j = orI [cI (ivA L i).e (ivA L j).e, cI (ivA L i).r (ivA L j).r, cI (i : Int) (j : Int)]) := rfl
  have H1 := hide (fun x y W => cmp_w x y W)
  have H2 := hide (fun (l : List Int) (a : Option Addr) (c : Nat) (W : World) (hl : l.length ≤ 1000) (hr : RepI W (In W) a l) => or_w l a c W hl hr)
  clear p0 p1 p2 q0 q1 q2 hr hb hi hj
  go_enter Try.func13, Try.ntmps13
  go_wp2_with fail
  refine wp_region_still_tail 25 (by kernel_rfl) (by kernel_rfl) ?_
  simp only [List.take_succ_cons, List.take_zero, List.drop_succ_cons, List.drop_zero]
  repeat (first | still_step | still_call (unhide H1 _ _ _))
  refine wpStill_nil ?_
  go_wp2_with (go_at_call 14; go_loud (refine Calls.mono (unhide H2 [cI (ivA L i).e (ivA L j).e, cI (ivA L i).r (ivA L j).r, cI (i : Int) (j : Int)] _ _ _ (by simp) (box3 _ _ _ _)) ?_; rintro e w2 ⟨rfl, hx⟩; have X2 := hide ((Ext.drew (Ext.refl w)).trans ((Ext.alloc _ _).trans hx)); clear hx))
  go_ret
  exact ⟨by rw [unhide HK]; rfl, unhide X2⟩

end Go.Proofs.Ytjopfpchbakggaa
