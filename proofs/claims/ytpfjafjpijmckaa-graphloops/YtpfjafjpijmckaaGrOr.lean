/- Whether a way up leads to a point; the order of leaving. -/
import Derived.Test.YtpfjafjpijmckaaGrCy
import Derived.Test.YtpfjafjpijmckaaGrL0
import Derived.BigRegion
set_option linter.unusedSimpArgs false
set_option linter.unusedVariables false
set_option maxRecDepth 10000
namespace Go.Proofs.Ytpfjafjpijmckaa
open Go.RowKit

theorem fr31 (T : Array Value) (h : T.size = 31) : ∃ u : Nat → Value, T = #[u 0, u 1, u 2, u 3, u 4, u 5, u 6, u 7, u 8, u 9, u 10, u 11, u 12, u 13, u 14, u 15, u 16, u 17, u 18, u 19, u 20, u 21, u 22, u 23, u 24, u 25, u 26, u 27, u 28, u 29, u 30] := by
  refine ⟨fun i => T.getD i undef, ?_⟩
  have e : T = ((List.range T.size).map (fun i => T.getD i undef)).toArray := by
    apply Array.ext
    · simp
    · intro i h1 h2
      simp [h1]
  rw [h] at e
  exact e

/-- The way up, so many steps at most. -/
def gDmU (d : List Int) (a : Int) : Nat → Int → Bool
  | 0, _ => false
  | k + 1, b => if b < 0 ∨ (d.length : Int) ≤ b then false else if a = b then true else gDmU d a k (d.getD b.toNat 0)

set_option maxHeartbeats 4000000 in
theorem domi_w (d : List Int) (da : Option Addr) (dc : Nat) (a b : Int) (w : World) (hd : RepI w (In w) da d) (hl : d.length ≤ 1000000) :
    Calls Try.prog 14 #[.slice da d.length dc, .int .i64 a, .int .i64 b] w fun e w' => e = .returned (.bool (gDmU d a d.length b)) ∧ w' = w := by
  have HD := hide hd
  clear hd
  obtain ⟨R, hR⟩ : ∃ R, R = gDmU d a d.length b := ⟨_, rfl⟩
  rw [← hR]
  have HR0 := hide hR.symm
  clear hR
  go_enter Try.func14, Try.ntmps14
  go_wp2_with fail
  refine k_scope_loop 0 (fun k a' wr => ∃ (s : Nat) (b : Int), a'.defers = [] ∧ a'.tmps.size = 31 ∧ a'.tmps[0]? = some (.slice da d.length dc) ∧ a'.tmps[1]? = some (.int .i64 a) ∧ a'.tmps[2]? = some (.int .i64 b) ∧ a'.tmps[7]? = some (.int .i64 (s : Int)) ∧ s + k = d.length ∧ Hd (gDmU d a k b = R) ∧ wr = w) rfl ?_ ?_
  · rintro k ⟨T, dd⟩ wr ⟨s, b, hd, hT, h0, h1, h2, h7, hs, hJ, hw⟩
    obtain rfl : dd = [] := hd
    obtain ⟨u, rfl⟩ := fr31 T hT
    have e0 : u 0 = .slice da d.length dc := Option.some.inj h0
    have e1 : u 1 = .int .i64 a := Option.some.inj h1
    have e2 : u 2 = .int .i64 b := Option.some.inj h2
    have e7 : u 7 = .int .i64 (s : Int) := Option.some.inj h7
    rw [e0, e1, e2, e7, hw]
    clear e0 e1 e2 e7 h0 h1 h2 h7 hT hw wr
    have hE := unhide hJ
    by_cases hb0 : b < 0
    · have HE : Hd (R = false) := by
        cases k with
        | zero => rw [gDmU] at hE; exact hE.symm
        | succ k => rw [gDmU, if_pos (Or.inl hb0)] at hE; exact hE.symm
      have hb1 : decide (b < 0) = true := by simpa using hb0
      clear hE
      go_wp2_with fail
      simp only [Exit.jump]
      go_ret
      rw [unhide HE]
      exact ⟨rfl, rfl⟩
    · by_cases hb2 : (d.length : Int) ≤ b
      · have HE : Hd (R = false) := by
          cases k with
          | zero => rw [gDmU] at hE; exact hE.symm
          | succ k => rw [gDmU, if_pos (Or.inr hb2)] at hE; exact hE.symm
        clear hE
        go_wp2_with fail
        simp only [Exit.jump]
        go_ret
        rw [unhide HE]
        exact ⟨rfl, rfl⟩
      · obtain ⟨q, rfl⟩ := Int.eq_ofNat_of_zero_le (by omega : 0 ≤ b)
        have hq : (q : Int) < (d.length : Int) := by omega
        cases k with
        | zero =>
          rw [gDmU] at hE
          obtain rfl : s = d.length := by omega
          have hss : ((d.length : Int) == (d.length : Int)) = true := by simp
          have HE := hide hE.symm
          clear hE
          go_wp2_with fail
          simp only [Exit.jump]
          go_ret
          rw [unhide HE]
          exact ⟨rfl, rfl⟩
        | succ k =>
          have hss : ((s : Int) == (d.length : Int)) = false := by rw [beq_eq_false_iff_ne]; omega
          rw [gDmU, if_neg (by omega)] at hE
          by_cases haq : a = (q : Int)
          · rw [if_pos haq] at hE
            have haq2 : (a == (q : Int)) = true := by simpa using haq
            have HE := hide hE.symm
            subst haq
            clear hE
            go_wp2_with fail
            simp only [Exit.jump]
            go_ret
            rw [unhide HE]
            exact ⟨rfl, rfl⟩
          · rw [if_neg haq] at hE
            have haq2 : (a == (q : Int)) = false := by rw [beq_eq_false_iff_ne]; exact haq
            obtain ⟨y, hy⟩ : ∃ y, d[q]? = some y := ⟨_, List.getElem?_eq_getElem (by omega)⟩
            have e1 : d.getD ((q : Int)).toNat 0 = y := by simp [List.getD, hy]
            rw [e1] at hE
            obtain ⟨db, dof, rfl, _, cy⟩ := (unhide HD).at hy
            have HE := hide hE
            clear hE hy e1
            go_wp2_with fail
            go_step3
            exact ⟨rfl, k, by omega, s + 1, y, rfl, rfl, rfl, rfl, rfl, by rfl, by omega, HE, rfl⟩
  · intro HJ1
    have H1 := hide HJ1
    clear HJ1
    go_wp2_with fail
    refine wp_label ?_
    rename_i hKK
    exact hKK _ _ (unhide H1 d.length _ _ ⟨0, b, rfl, rfl, rfl, rfl, rfl, rfl, by omega, HR0, rfl⟩)

/-- The first i and the last i have changed places. -/
def Swp (l X : List Nat) (i : Nat) : Prop := X.length = l.length ∧ ∀ t, X[t]? = if t < i ∨ l.length - i ≤ t then (if t < l.length then l[l.length - 1 - t]? else none) else l[t]?
theorem Swp.start (l : List Nat) : Swp l l 0 := ⟨rfl, fun t => by
  split
  · rename_i h
    rw [if_neg (by omega), List.getElem?_eq_none (by omega)]
  · rfl⟩
theorem Swp.step {l X : List Nat} {i x y : Nat} (h : Swp l X i) (hi : i < l.length - 1 - i) (hx : X[i]? = some x) (hy : X[l.length - 1 - i]? = some y) : Swp l ((X.set i y).set (l.length - 1 - i) x) (i + 1) := by
  have h1 := h.2 i
  have h2 := h.2 (l.length - 1 - i)
  rw [if_neg (by omega)] at h1 h2
  refine ⟨by simp [h.1], fun t => ?_⟩
  rw [List.getElem?_set, List.getElem?_set]
  by_cases e1 : l.length - 1 - i = t
  · subst e1
    rw [if_pos rfl, if_pos (by rw [List.length_set, h.1]; omega), if_pos (by omega), if_pos (by omega), show l.length - 1 - (l.length - 1 - i) = i by omega, ← h1, hx]
  · rw [if_neg e1]
    by_cases e2 : i = t
    · subst e2
      rw [if_pos rfl, if_pos (by rw [h.1]; omega), if_pos (by omega), if_pos (by omega), ← h2, hy]
    · rw [if_neg e2, h.2 t]
      by_cases e3 : t < i ∨ l.length - i ≤ t
      · simp only [if_pos e3, if_pos (show t < i + 1 ∨ l.length - (i + 1) ≤ t by omega)]
      · simp only [if_neg e3, if_neg (show ¬ (t < i + 1 ∨ l.length - (i + 1) ≤ t) by omega)]
theorem Swp.done {l X : List Nat} {i : Nat} (h : Swp l X i) (hi : l.length ≤ 2 * i + 1) : X = l.reverse := by
  apply List.ext_getElem?
  intro t
  rw [h.2 t]
  by_cases e0 : t < l.length
  · rw [List.getElem?_reverse e0]
    by_cases e3 : t < i ∨ l.length - i ≤ t
    · rw [if_pos e3, if_pos e0]
    · rw [if_neg e3, show l.length - 1 - t = t by omega]
  · rw [List.getElem?_eq_none (by simp; omega : l.reverse.length ≤ t)]
    by_cases e3 : t < i ∨ l.length - i ≤ t
    · rw [if_pos e3, if_neg e0]
    · rw [if_neg e3, List.getElem?_eq_none (by omega)]

set_option maxHeartbeats 4000000 in
theorem reverse_w (base g n c : Nat) (l : List Nat) (w : World) (hn : l.length = n) (hO : w.ownsRow base 3 1 (.slice (some ⟨g, 0, none⟩) n c) n (ns l)) (hl : n ≤ 10000000) :
    Calls Try.prog 30 #[.slice (some ⟨g, 0, none⟩) n c] w fun e w' => e = .returned (.tuple #[]) ∧ w'.ownsRow base 3 1 (.slice (some ⟨g, 0, none⟩) n c) n (ns l.reverse) ∧ w.grownBy w' (some g) := by
  have HO := hide hO
  clear hO
  go_enter Try.func30, Try.ntmps30
  go_wp2_with fail
  go_loopw [2, 3] (fun t2 t3 wr => ∃ (i : Nat) (y : Int) (X : List Nat), t2 = .int .i64 (i : Int) ∧ t3 = .int .i64 y ∧ y + (i : Int) + 1 = (n : Int) ∧ Hd (Swp l X i) ∧ Hd (wr.ownsRow base 3 1 (.slice (some ⟨g, 0, none⟩) n c) n (ns X)) ∧ Hd (w.grownBy wr (some g))) (fun t _ _ => n + 1 - (intOf t).toNat)
  case atStart => exact ⟨0, (n : Int) - 1, l, rfl, by go_num, by omega, Swp.start l, HO, ⟨rfl, rfl, rfl, Nat.le_refl _, fun _ _ _ => rfl⟩⟩
  case round =>
    clear HO
    obtain ⟨i, y, X, rfl, rfl, hy, hS, hO, hG⟩ := hrel
    by_cases hlt : (i : Int) < y
    · obtain ⟨j, rfl⟩ := Int.eq_ofNat_of_zero_le (by omega : 0 ≤ y)
      have hj : l.length - 1 - i = j := by omega
      have hXl := (unhide hS).1
      obtain ⟨a, ha⟩ : ∃ a, X[i]? = some a := ⟨_, List.getElem?_eq_getElem (by omega)⟩
      obtain ⟨b, hb⟩ : ∃ b, X[j]? = some b := ⟨_, List.getElem?_eq_getElem (by omega)⟩
      obtain ⟨g2, hg2, hnc, ca⟩ := own_at (unhide hO) ha
      injection hg2 with hg2
      injection hg2 with hg2
      subst hg2
      obtain ⟨_, hg3, _, cb⟩ := own_at (unhide hO) hb
      injection hg3 with hg3
      injection hg3 with hg3
      subst hg3
      have hfz : ∀ t, wr.frozen? ⟨g, t, none⟩ = false := by
        rcases (unhide hO).2 with ⟨e, _⟩ | ⟨g2, cap, cur, e, _, hgg, _⟩
        · cases e
        · injection e with e1
          injection e1 with e1
          injection e1 with e1
          subst e1
          exact fun t => k_rowF hgg t
      have hO1 := own_setG (unhide hO) i (.int .i64 (b : Int))
      rw [ns_set] at hO1
      have hbj : (X.set i b)[j]? = some b := by rw [List.getElem?_set, if_neg (by omega)]; exact hb
      obtain ⟨_, hg4, _, cj⟩ := own_at hO1 hbj
      injection hg4 with hg4
      injection hg4 with hg4
      subst hg4
      have hfz2 : (wr.setCell ⟨g, i, none⟩ (.int .i64 (b : Int))).frozen? ⟨g, j, none⟩ = false := by
        rcases hO1.2 with ⟨e, _⟩ | ⟨g2, cap, cur, e, _, hgg, _⟩
        · cases e
        · injection e with e1
          injection e1 with e1
          injection e1 with e1
          subst e1
          exact k_rowF hgg j
      have hO2 := own_setG hO1 j (.int .i64 (a : Int))
      rw [ns_set] at hO2
      have HO2 : Hd ((((wr.setCell ⟨g, i, none⟩ (.int .i64 (b : Int))).setCell ⟨g, j, none⟩ (.int .i64 (a : Int))).drew).ownsRow base 3 1 (.slice (some ⟨g, 0, none⟩) n c) n (ns ((X.set i b).set j a))) := hO2
      have HG2 : Hd (w.grownBy (((wr.setCell ⟨g, i, none⟩ (.int .i64 (b : Int))).setCell ⟨g, j, none⟩ (.int .i64 (a : Int))).drew) (some g)) := by
        obtain ⟨q1, q2, q3, q4, q5⟩ := unhide hG
        refine ⟨q1, q2, q3, by simpa [World.setCell, World.drew] using q4, fun k hk hne => ?_⟩
        have hkg : k ≠ g := fun e => hne (by rw [e])
        exact (Below.heap_setCell _ _ _ _ hkg).trans ((Below.heap_setCell _ _ _ _ hkg).trans (q5 k hk hne))
      have HS2 : Hd (Swp l ((X.set i b).set j a) (i + 1)) := by
        have := (unhide hS).step (x := a) (y := b) (by omega) ha (by rw [hj]; exact hb)
        rw [hj] at this
        exact this
      have f1 := hfz i
      have hin : (i : Int) < (n : Int) := by omega
      have hjn : (j : Int) < (n : Int) := by omega
      have hij : ((i : Int) == (j : Int)) = false := by rw [beq_eq_false_iff_ne]; omega
      clear hO1 hO2 ha hb hbj hfz
      go_wp2_with fail
      go_region
      go_wp2_with fail
      go_roundw
      case rel => exact ⟨i + 1, (j : Int) - 1, _, by go_num, by go_num, by omega, HS2, HO2, HG2⟩
      case measure => simp [intOf]; omega
    · have HQ : Hd (X = l.reverse) := (unhide hS).done (by omega)
      go_wp2_with fail
      go_end0
      have hO2 := unhide hO
      rw [unhide HQ] at hO2
      exact ⟨rfl, by simpa [ns] using hO2, unhide hG⟩

set_option maxHeartbeats 1000000 in
theorem reverse0_w (a : Option Addr) (c : Nat) (w : World) :
    Calls Try.prog 30 #[.slice a 0 c] w fun e w' => e = .returned (.tuple #[]) ∧ w' = w := by
  go_enter Try.func30, Try.ntmps30
  go_wp2_with fail
  go_loopw [2, 3] (fun t2 t3 wr => t2 = .int .i64 0 ∧ t3 = .int .i64 (-1) ∧ wr = w) (fun _ _ _ => 0)
  case atStart => exact ⟨rfl, rfl, rfl⟩
  case round =>
    obtain ⟨rfl, rfl, hw⟩ := hrel
    rw [hw]
    go_wp2_with fail
    go_end0
    exact ⟨rfl, rfl⟩

set_option maxHeartbeats 2000000 in
theorem order_w (ga : Option Addr) (gc : Nat) (g : List (List Int)) (w : World) (K : Nat) (F : GW) (hg : RepG w (In w) ga g) (hf : Few g) (hK : K ≤ 7000000) (hF : gWalk g K = some F) :
    Calls Try.prog 10 #[.slice ga g.length gc] w fun e w' => ∃ la lc, e = .returned (.slice la F.left.length lc) ∧ RepI w' (In w') la (F.left.reverse.map (fun (x : Nat) => (x : Int))) ∧ Ext w w' := by
  have H := hide (walkOf_w ga gc g w K F hg hf hK hF)
  have hln := (gWalk_len hF).2
  clear hg hf hF
  by_cases h0 : F.left = []
  · go_enter Try.func10, Try.ntmps10
    go_wp2_with (first
      | (go_at_call 27; refine Calls.mono (unhide H) ?_; rintro e w1 ⟨B, S, N, Y, ma, mc, la, lc, rfl, s1⟩; have S1 := hide s1; have c5 : w1.cell? ⟨B, 5, none⟩ = some (.slice la 0 lc) := (by have := s1.rB.cell 5 rfl; rw [h0] at this; exact this); clear s1)
      | (go_at_call 30; refine Calls.mono (reverse0_w la lc w1) ?_; rintro e w2 ⟨rfl, hw⟩; rw [hw]; clear hw w2))
    go_ret
    refine ⟨la, lc, ?_, Or.inl (by rw [h0]; rfl), (unhide S1).ext⟩
    rw [h0]
    rfl
  · obtain ⟨p0, hp0⟩ : ∃ p0, F.left[0]? = some p0 := ⟨_, List.getElem?_eq_getElem (List.length_pos_iff.2 h0)⟩
    have Hp0 := hide hp0
    clear hp0 h0
    go_enter Try.func10, Try.ntmps10
    go_wp2_with (first
      | (go_at_call 27; refine Calls.mono (unhide H) ?_; rintro e w1 ⟨B, S, N, Y, ma, mc, la, lc, rfl, s1⟩; obtain ⟨lg, rfl, hlc, _⟩ := own_at s1.oL (unhide Hp0); have S1 := hide s1; have c5 : w1.cell? ⟨B, 5, none⟩ = some (.slice (some ⟨lg, 0, none⟩) F.left.length lc) := s1.rB.cell 5 rfl; clear s1)
      | (go_at_call 30; refine Calls.mono (reverse_w w.heap.size lg F.left.length lc F.left w1 rfl (unhide S1).oL (by omega)) ?_; rintro e w2 ⟨rfl, o2, g2⟩; have O2 := hide o2; have G2 := hide g2; clear o2 g2))
    go_ret
    refine ⟨_, lc, rfl, own_repI (unhide O2), ?_⟩
    refine Below.grown (unhide S1).ext (unhide G2) (unhide S1).ext.size ?_
    intro j hj
    injection hj with hj
    subst hj
    exact ((unhide S1).oL.lt lg rfl).1

end Go.Proofs.Ytpfjafjpijmckaa
