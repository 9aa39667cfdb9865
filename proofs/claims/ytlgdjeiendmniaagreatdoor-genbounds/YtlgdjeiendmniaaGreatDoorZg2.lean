/- What the program's and the document's sums, differences, products and quotients give: the same functions of the parts' words. · What the program's and the document's quotients give: the same functions of the parts' words. · What the small calls give: negatives, mirrors, sameness, soundness, whole parts, the statements' own helpers. · What the program tells of a value that a world holds: how great it is, whether it is well formed, sound, true; the value that it is taken for. -/
import Derived.Test.YtlgdjeiendmniaaGreatDoorZg1
import Derived.Handy
set_option linter.unusedSimpArgs false
set_option linter.unusedVariables false
set_option maxRecDepth 10000

namespace Go.Proofs.YtlgdjeiendmniaaGreatDoor.V

/-- The product of two finite words. -/
def mulV (x y : Nat) : Nat := (D.mul x y).getD 0
theorem mulV_eq {x y r : Nat} (h : D.mul x y = some r) : mulV x y = r := by unfold mulV; rw [h]; rfl

end Go.Proofs.YtlgdjeiendmniaaGreatDoor.V

namespace Go.Proofs.YtlgdjeiendmniaaGreatDoor.V

end Go.Proofs.YtlgdjeiendmniaaGreatDoor.V

namespace Go.Proofs.YtlgdjeiendmniaaGreatDoor.V

/-- A word with its sign turned. -/
def ng (x : Nat) : Nat := Op.negFloat .f64 x

theorem ng_eq {x : Nat} (h : Wd x) : ng x = if x < 9223372036854775808 then x + 9223372036854775808 else x - 9223372036854775808 := by
  unfold Wd at h
  show x ^^^ 2 ^ 63 = _
  have e : (2 : Nat) ^ 63 = 9223372036854775808 := rfl
  split
  · rename_i hl
    have h1 : x ^^^ 2 ^ 63 = 2 ^ 63 ||| x := by
      apply Nat.eq_of_testBit_eq
      intro i
      rw [Nat.testBit_xor, Nat.testBit_or, Nat.testBit_two_pow]
      by_cases hi : 63 = i
      · subst hi
        have : x.testBit 63 = false := Nat.testBit_lt_two_pow (by rw [e]; exact hl)
        simp [this]
      · simp [hi]
    have h2 := Nat.two_pow_add_eq_or_of_lt (i := 63) (b := x) (by rw [e]; exact hl) 1
    rw [Nat.mul_one] at h2
    rw [h1, ← h2, e]; omega
  · rename_i hl
    obtain ⟨y, rfl⟩ : ∃ y, x = 2 ^ 63 + y := ⟨x - 9223372036854775808, by rw [e]; omega⟩
    have hy : y < 2 ^ 63 := by rw [e] at h hl ⊢; omega
    have h2 := Nat.two_pow_add_eq_or_of_lt (i := 63) (b := y) hy 1
    rw [Nat.mul_one] at h2
    have h1 : (2 ^ 63 ||| y) ^^^ 2 ^ 63 = y := by
      apply Nat.eq_of_testBit_eq
      intro i
      rw [Nat.testBit_xor, Nat.testBit_or, Nat.testBit_two_pow]
      by_cases hi : 63 = i
      · subst hi
        have : y.testBit 63 = false := Nat.testBit_lt_two_pow hy
        simp [this]
      · simp [hi]
    rw [h2, h1, ← h2, e]; omega

theorem ng_wd {x : Nat} (h : Wd x) : Wd (ng x) := by
  rw [ng_eq h]
  unfold Wd at *
  split <;> omega

@[go_sem] theorem unary_ng (x : Nat) : Op.unary .neg (.float .f64 x) = pure (.float .f64 (ng x)) := rfl

theorem same_any (a b c d : Nat) (w : World) (ha : Wd a) (hb : Wd b) (hc : Wd c) (hd : Wd d) :
    Calls Tryz.prog 154 #[.complex .f64 a b, .complex .f64 c d] w fun e w' => e = .returned (.bool ((D.order (cl1 a b) (cl1 c d) == some .eq) && (D.order (cl2 a b) (cl2 c d) == some .eq))) ∧ w' = w := by
  go_enter Tryz.func154, Tryz.ntmps154
  go_wp2_with (go_at_call 163; refine (sound_any _ _ _ ?_ ?_).mono ?_; assumption; assumption; rintro e w' ⟨rfl, rfl⟩)
  go_ret
  exact ⟨rfl, rfl⟩

theorem of_any (a b : Int) (w : World) :
    Calls Tryz.prog 128 #[.int .i64 a, .int .i64 b] w fun e w' => e = .returned (.complex .f64 (floatOfInt .f64 a) (floatOfInt .f64 b)) ∧ w' = w := by
  go_enter Tryz.func128, Tryz.ntmps128
  go_wp2
  go_ret
  exact ⟨rfl, rfl⟩

theorem soundPart_any (x : Nat) (w : World) (hx : Wd x) :
    Calls Tryz.prog 155 #[.float .f64 x] w fun e w' => e = .returned (.bool (fin x && !neg0 x)) ∧ w' = w := by
  have hr : neg0 x = ((D.order x 0 == some .eq) && decide (9223372036854775808 ≤ x)) := rfl
  have K := hide hr
  clear hr
  cases hA : fin x <;> cases hB : (D.order x 0 == some .eq)
  all_goals
    go_enter Tryz.func155, Tryz.ntmps155
    go_wp2_with (first | (go_at_call 164; refine (finite_any _ _ ?_).mono ?_; assumption; rintro e w' ⟨rfl, rfl⟩) | (go_at_call 165; refine (signbit_any _ _ ?_).mono ?_; assumption; rintro e w' ⟨rfl, rfl⟩))
    go_ret
    exact ⟨ret_bool (by rw [unhide K, hB]; simp), rfl⟩

theorem ok_any (a b : Nat) (w : World) (ha : Wd a) (hb : Wd b) :
    Calls Tryz.prog 133 #[.complex .f64 a b] w fun e w' => e = .returned (.bool (okB a b)) ∧ w' = w := by
  have hr : okB a b = ((fin a && !neg0 a) && (fin b && !neg0 b)) := rfl
  have K := hide hr
  clear hr
  cases hA : (fin a && !neg0 a)
  all_goals
    go_enter Tryz.func133, Tryz.ntmps133
    go_wp2_with (go_at_call 155; refine (soundPart_any _ _ ?_).mono ?_; assumption; rintro e w' ⟨rfl, rfl⟩)
    go_ret
    exact ⟨ret_bool (by rw [unhide K, hA]; simp), rfl⟩

/-- Two numbers, the same to the bit. -/
def bitsB (a b c d : Nat) : Bool := decide (a = c) && decide (b = d)
theorem bitsB_self (a b : Nat) : bitsB a b a b = true := by simp [bitsB]

theorem int_beq (b d : Nat) : ((b : Int) == (d : Int)) = decide (b = d) := by rw [Bool.eq_iff_iff]; simp; omega

end Go.Proofs.YtlgdjeiendmniaaGreatDoor.V

namespace Go.Proofs.YtlgdjeiendmniaaGreatDoor.V
open Go.RowKit

theorem ret_i64 {a b : Int} (h : a = b) : Ending.returned (.int .i64 a) = .returned (.int .i64 b) := by rw [h]
theorem beqd (a b : Int) : (a == b) = decide (a = b) := rfl
theorem castz (a : Nat) : ((a : Int) = 0) = (a = 0) := by simp

theorem size_leaf (k n : Int) (re im : Nat) (s : ByteArray) (sl : Value) (d : Nat) (w : World) (hk : k ≠ 4) (hs : s.size ≤ 140737488355328) :
    Calls Tryz.prog 85 #[.agg #[.int .i64 k, .int .i64 n, .complex .f64 re im, .string s, sl], .int .i64 d] w fun e w' => e = .returned (.int .i64 (if k = 3 then min (1 + s.size) 1001 else 1 : Nat)) ∧ Ext w w' := by
  by_cases h3 : k = 3
  · subst h3
    go_enter Tryz.func85, Tryz.ntmps85
    go_wp2_with fail
    all_goals
      go_ret
      refine ⟨ret_i64 ?_, Ext.alloc _ _⟩
      omega
  · go_enter Tryz.func85, Tryz.ntmps85
    go_wp2_with fail
    go_ret
    refine ⟨ret_i64 ?_, Ext.alloc _ _⟩
    simp [h3]

theorem size_any : ∀ (p : PV) (v : Value) (d : Nat) (w : World), d ≤ 24 → Rep w (In w) p v →
    Calls Tryz.prog 85 #[v, .int .i64 d] w fun e w' => e = .returned (.int .i64 (sz p d)) ∧ Ext w w' := by
  refine PV.byList ?_
  intro k n re im s l ih v d w hd hr
  rw [Rep] at hr
  obtain ⟨a, cap, rfl, hb, hl⟩ := hr
  by_cases hk : k = 4
  · subst hk
    by_cases h24 : d = 24
    · subst h24
      go_enter Tryz.func85, Tryz.ntmps85
      go_wp2_with fail
      go_ret
      refine ⟨ret_i64 ?_, Ext.alloc _ _⟩
      simp [sz]
    · have h25 : ((d : Int) == 24) = false := by simp; omega
      have h1 := hb.bl
      have h2 := hb.bc
      have H := hide hl
      have I := hide ih
      clear hl ih hb
      go_enter Tryz.func85, Tryz.ntmps85
      go_wp2_with fail
      go_loopw [5, 24] (fun x i wr => ∃ j acc : Nat, i = .int .i64 j ∧ x = .int .i64 acc ∧ j ≤ l.length ∧ acc ≤ 1000 ∧ Hd (szL (l.drop j) (d + 1) acc = szL l (d + 1) 1) ∧ Ext w wr) (fun _ i _ => l.length - (intOf i).toNat)
      case atStart => exact ⟨0, 1, rfl, rfl, by omega, by omega, rfl, Ext.alloc _ _⟩
      case round =>
        obtain ⟨j, acc, rfl, rfl, hj, hacc, hS, hE⟩ := hrel
        by_cases hlt : j < l.length
        · obtain ⟨x, hx⟩ : ∃ x, l[j]? = some x := ⟨l[j], List.getElem?_eq_getElem hlt⟩
          obtain ⟨b, off, a', cap', rfl, hEl⟩ := RepL.get (RepL.ext (unhide H) hE) j x hx
          have h0 := hEl.c0
          have h1 := hEl.c1
          have h2 := hEl.c2
          have h3 := hEl.c3
          have h4 := hEl.c4
          obtain ⟨m, hm⟩ : ∃ m, m = sz x (d + 1) := ⟨_, rfl⟩
          have hm1 : m ≤ 1001 := by rw [hm]; exact sz_le _ _
          have hc := unhide I x (List.mem_of_getElem? hx) _ (d + 1) (wr.alloc (.cells #[.int .i64 x.k, .int .i64 x.n, .complex .f64 x.re x.im, .string x.s, .slice a' x.l.length cap'] 124)) (by omega) (hEl.rep.ext (Ext.alloc _ _))
          rw [← hm] at hc
          have C := hide hc
          have hst := szL_step hx (d + 1) acc
          rw [← hm, unhide hS] at hst
          have HS := hide hst
          have HE := hide (hE.trans (Ext.alloc wr (.cells #[.int .i64 x.k, .int .i64 x.n, .complex .f64 x.re x.im, .string x.s, .slice a' x.l.length cap'] 124)))
          clear hEl hx hE hc hm hst hS
          go_wp2_with (go_at_call 85; refine Calls.mono (unhide C) ?_; rintro e w' ⟨rfl, hw⟩)
          · go_ret
            refine ⟨ret_i64 ?_, (unhide HE).trans hw⟩
            have hst := unhide HS
            rw [if_pos (by omega)] at hst
            simp [sz, h24, hst]
          · go_roundw
            case rel =>
              have hst := unhide HS
              rw [if_neg (by omega)] at hst
              exact ⟨j + 1, acc + m, by go_num, by go_num, by omega, by omega, hst.symm, (unhide HE).trans hw⟩
            case measure => simp [intOf]; omega
        · have : j = l.length := by omega
          subst this
          go_wp2_with fail
          go_ret
          refine ⟨ret_i64 ?_, hE⟩
          have := unhide hS
          simp [szL] at this
          simp [sz, h24, this]
  · refine (size_leaf k n re im s _ d w hk hb.bs).mono ?_
    rintro e w' ⟨rfl, h⟩
    refine ⟨ret_i64 ?_, h⟩
    rw [sz]
    simp [hk]

/-- What the kind leaves unused holds nothing. -/
def unused (k n : Int) (re im : Nat) (s : ByteArray) (len : Nat) : Bool :=
  decide ((k = 1 ∨ n = 0) ∧ (k = 2 ∨ (FloatKind.f64.format.order re 0 = some Ordering.eq ∧ FloatKind.f64.format.order im 0 = some Ordering.eq)) ∧ (k = 3 ∨ s.toList = []) ∧ (k = 4 ∨ len = 0))

theorem unused_any (k n : Int) (re im : Nat) (s : ByteArray) (a : Option Addr) (len cap : Nat) (w : World) :
    Calls Tryz.prog 134 #[.agg #[.int .i64 k, .int .i64 n, .complex .f64 re im, .string s, .slice a len cap]] w fun e w' => e = .returned (.bool (unused k n re im s len)) ∧ Ext w w' := by
  obtain ⟨u, hu⟩ : ∃ u, u = unused k n re im s len := ⟨_, rfl⟩
  rw [← hu]
  have U := hide hu
  clear hu
  go_enter Tryz.func134, Tryz.ntmps134
  go_wp2_with fail
  all_goals
    go_ret
    refine ⟨ret_bool ?_, Ext.alloc _ _⟩
    rw [unhide U, unused]
    simp [*, beqd, castz]

mutual
/-- A value has only what its kind has, and so has all that stands in it. -/
def wfv : PV → Bool
  | .mk k n re im s l => decide (0 ≤ k) && decide (k ≤ 4) && (decide (k ≠ 2) || okB re im) && unused k n re im s l.length && wfvL l
def wfvL : List PV → Bool
  | [] => true
  | x :: xs => wfv x && wfvL xs
end

theorem wfvL_step {l : List PV} {j : Nat} {x : PV} (h : l[j]? = some x) : wfvL (l.drop j) = (wfv x && wfvL (l.drop (j + 1))) := by
  obtain ⟨hj, rfl⟩ := List.getElem?_eq_some_iff.1 h
  rw [List.drop_eq_getElem_cons hj, wfvL]

theorem formed_any : ∀ (p : PV) (v : Value) (w : World), Rep w (In w) p v →
    Calls Tryz.prog 98 #[v] w fun e w' => e = .returned (.bool (wfv p)) ∧ Ext w w' := by
  refine PV.byList ?_
  intro k n re im s l ih v w hr
  rw [Rep] at hr
  obtain ⟨a, cap, rfl, hb, hl⟩ := hr
  have h1 := hb.bl
  have h2 := hb.bc
  have hre : Wd re := hb.bre
  have him : Wd im := hb.bim
  have H := hide hl
  have I := hide ih
  clear hl ih hb
  have hok := fun w => ok_any re im w hre him
  have hun := fun w => unused_any k n re im s a l.length cap w
  rcases (show k < 0 ∨ 4 < k ∨ (0 ≤ k ∧ k ≤ 4) by omega) with hk | hk | ⟨hk0, hk4⟩
  · go_enter Tryz.func98, Tryz.ntmps98
    go_wp2_with fail
    go_ret
    exact ⟨ret_bool (by rw [wfv]; simp; omega), Ext.alloc _ _⟩
  · go_enter Tryz.func98, Tryz.ntmps98
    go_wp2_with fail
    go_ret
    exact ⟨ret_bool (by rw [wfv]; simp; omega), Ext.alloc _ _⟩
  · cases hO : (decide (k ≠ 2) || okB re im)
    · have hk2 : k = 2 := by simp at hO; exact hO.1
      have ho : okB re im = false := by simp at hO; exact hO.2
      clear hO
      subst hk2
      rw [ho] at hok
      have HO := hide hok
      clear hok
      go_enter Tryz.func98, Tryz.ntmps98
      go_wp2_with (go_at_call 133; refine Calls.mono (unhide HO _) ?_; rintro e w' ⟨rfl, rfl⟩)
      go_ret
      exact ⟨ret_bool (by rw [wfv]; simp [ho]), Ext.alloc _ _⟩
    · have hO2 : k = 2 ∧ okB re im = true ∨ k ≠ 2 := by
        simp at hO
        rcases hO with h | h
        · exact Or.inr h
        · by_cases hk2 : k = 2
          · exact Or.inl ⟨hk2, h⟩
          · exact Or.inr hk2
      have HO := hide hO
      clear hO
      cases hU : unused k n re im s l.length
      · rw [hU] at hun
        have HN := hide hun
        have HU := hide hU
        clear hun hU
        rcases hO2 with ⟨hk2, ho⟩ | hk2
        all_goals
          first | rw [ho] at hok | skip
          first | subst hk2 | skip
          have HK := hide hok
          first | clear ho | skip
          clear hok
          go_enter Tryz.func98, Tryz.ntmps98
          go_wp2_with (first | (go_at_call 133; refine Calls.mono (unhide HK _) ?_; rintro e w' ⟨rfl, rfl⟩) | (go_at_call 134; refine Calls.mono (unhide HN _) ?_; rintro e w' ⟨rfl, hw⟩))
          go_ret
          exact ⟨ret_bool (by rw [wfv, unhide HU]; simp), (Ext.alloc _ _).trans hw⟩
      · rw [hU] at hun
        have HN := hide hun
        have HU := hide hU
        clear hun hU
        rcases hO2 with ⟨hk2, ho⟩ | hk2
        all_goals
          first | rw [ho] at hok | skip
          first | subst hk2 | skip
          have HK := hide hok
          first | clear ho | skip
          clear hok
          go_enter Tryz.func98, Tryz.ntmps98
          go_wp2_with (first | (go_at_call 133; refine Calls.mono (unhide HK _) ?_; rintro e w' ⟨rfl, rfl⟩) | (go_at_call 134; refine Calls.mono (unhide HN _) ?_; rintro e w1 ⟨rfl, hw⟩; have hc4 := hw.box 4 rfl))
          have hw0 := (Ext.alloc _ _).trans hw
          clear hw
          go_loopw [28] (fun i wr => ∃ j : Nat, i = .int .i64 j ∧ j ≤ l.length ∧ Hd (wfvL (l.drop j) = wfvL l) ∧ Ext w wr) (fun i _ => l.length - (intOf i).toNat)
          case atStart => exact ⟨0, rfl, by omega, rfl, hw0⟩
          case round =>
            clear hc4 hw0
            obtain ⟨j, rfl, hj, hS, hE⟩ := hrel
            by_cases hlt : j < l.length
            · obtain ⟨x, hx⟩ : ∃ x, l[j]? = some x := ⟨l[j], List.getElem?_eq_getElem hlt⟩
              obtain ⟨b, off, a', cap', rfl, hEl⟩ := RepL.get (RepL.ext (unhide H) hE) j x hx
              have h0 := hEl.c0
              have h1 := hEl.c1
              have h2 := hEl.c2
              have h3 := hEl.c3
              have h4 := hEl.c4
              have hc := unhide I x (List.mem_of_getElem? hx) _ (wr.alloc (.cells #[.int .i64 x.k, .int .i64 x.n, .complex .f64 x.re x.im, .string x.s, .slice a' x.l.length cap'] 124)) (hEl.rep.ext (Ext.alloc _ _))
              have hst := wfvL_step hx
              rw [unhide hS] at hst
              have HE := hide (hE.trans (Ext.alloc wr (.cells #[.int .i64 x.k, .int .i64 x.n, .complex .f64 x.re x.im, .string x.s, .slice a' x.l.length cap'] 124)))
              clear hEl hx hE hS
              cases hb : wfv x
              · rw [hb] at hc hst
                have C := hide hc
                have HS := hide hst
                clear hc hst hb
                go_wp2_with (go_at_call 98; refine Calls.mono (unhide C) ?_; rintro e w' ⟨rfl, hw⟩)
                go_ret
                refine ⟨ret_bool ?_, (unhide HE).trans hw⟩
                rw [wfv, unhide HS]
                simp
              · rw [hb] at hc hst
                have C := hide hc
                have HS := hide hst
                clear hc hst hb
                go_wp2_with (go_at_call 98; refine Calls.mono (unhide C) ?_; rintro e w' ⟨rfl, hw⟩)
                go_roundw
                case rel =>
                  have hst := unhide HS
                  rw [Bool.true_and] at hst
                  exact ⟨j + 1, by go_num, by omega, hst.symm, (unhide HE).trans hw⟩
                case measure => simp [intOf]; omega
            · have : j = l.length := by omega
              subst this
              go_wp2_with fail
              go_ret
              refine ⟨ret_bool ?_, hE⟩
              have hst := unhide hS
              simp [wfvL] at hst
              rw [wfv, ← hst, unhide HO, unhide HU]
              simp [hk0, hk4]

end Go.Proofs.YtlgdjeiendmniaaGreatDoor.V
