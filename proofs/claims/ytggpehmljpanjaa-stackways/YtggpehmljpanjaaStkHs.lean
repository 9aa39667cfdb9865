/- Whether a function has its form; its heights. -/
import Derived.Test.YtggpehmljpanjaaStkFm
set_option linter.unusedSimpArgs false
set_option linter.unusedVariables false
set_option maxRecDepth 10000
namespace Go.Proofs.Ytggpehmljpanjaa
open Go.RowKit

theorem all_drop {α : Type} (p : α → Bool) {l : List α} {k : Nat} {x : α} (h : l[k]? = some x) : (l.drop k).all p = (p x && (l.drop (k + 1)).all p) := by
  obtain ⟨h1, h2⟩ := List.getElem?_eq_some_iff.1 h
  rw [List.drop_eq_getElem_cons h1, h2, List.all_cons]

set_option maxHeartbeats 1000000 in
theorem consts_any (cs : List PV) (a : Option Addr) (c : Nat) (w : World) (hr : RepL w (In w) cs a) (hn : cs.length ≤ 1000000) :
    Calls Try.prog 27 #[.slice a cs.length c] w fun e w' => e = .returned (.bool (cs.all okv)) ∧ Ext w w' := by
  have HO := hide (fun (p : PV) (v : Value) (W : World) => okv_any p v W)
  have HR := hide hr
  clear hr
  obtain ⟨T, hT⟩ : ∃ T, T = cs.all okv := ⟨_, rfl⟩
  rw [← hT]
  have HT : Hd ((cs.drop 0).all okv = T) := hT.symm
  clear hT
  generalize hN : cs.length = n at *
  go_enter Try.func27, Try.ntmps27
  go_wp2_with fail
  go_loopw [7] (fun t wr => ∃ (k : Nat), t = .int .i64 k ∧ k ≤ n ∧ Hd ((cs.drop k).all okv = T) ∧ Hd (Ext w wr)) (fun t _ => n - (intOf t).toNat)
  case atStart => exact ⟨0, rfl, by omega, HT, Ext.refl w⟩
  case round =>
    clear HT
    obtain ⟨k, rfl, hk, hE, hX⟩ := hrel
    by_cases hlt : k < n
    · obtain ⟨x, hx⟩ : ∃ x, cs[k]? = some x := ⟨_, List.getElem?_eq_getElem (by omega)⟩
      have hE2 := unhide hE
      rw [all_drop okv hx] at hE2
      obtain ⟨b, o, a', cap', rfl, el⟩ := ((unhide HR).ext (unhide hX)).get k x hx
      have c0 := el.c0
      have c1 := el.c1
      have c2 := el.c2
      have c3 := el.c3
      have c4 := el.c4
      have HRp := hide el.rep
      clear el hx
      obtain ⟨xk, xn, xr, xi, xs, xl⟩ := x
      simp only at c0 c1 c2 c3 c4 HRp
      cases hq : okv ⟨xk, xn, xr, xi, xs, xl⟩ with
      | true =>
        have HQ := hide hq
        have HE2 : Hd ((cs.drop (k + 1)).all okv = T) := by rw [hq, Bool.true_and] at hE2; exact hE2
        clear hE2 hq
        go_wp2_with (go_at_call 34; refine Calls.mono (unhide HO _ _ _ ((unhide HRp).ext (Ext.alloc _ _))) ?_; rw [unhide HQ]; rintro e w1 ⟨rfl, hw⟩; have X1 := hide (((unhide hX).trans (Ext.alloc _ _)).trans hw); clear hw)
        go_roundw
        case rel => exact ⟨k + 1, by go_num, by omega, HE2, X1⟩
        case measure => simp [intOf]; omega
      | false =>
        have HQ := hide hq
        have HE2 : Hd (T = false) := by rw [hq, Bool.false_and] at hE2; exact hE2.symm
        clear hE2 hq
        go_wp2_with (go_at_call 34; refine Calls.mono (unhide HO _ _ _ ((unhide HRp).ext (Ext.alloc _ _))) ?_; rw [unhide HQ]; rintro e w1 ⟨rfl, hw⟩; have X1 := hide (((unhide hX).trans (Ext.alloc _ _)).trans hw); clear hw)
        rw [unhide HE2]
        go_ret
        exact ⟨rfl, unhide X1⟩
    · obtain rfl : k = n := by omega
      have HE2 : Hd (T = true) := by
        have := unhide hE
        rw [List.drop_eq_nil_of_le (by omega)] at this
        exact this.symm
      go_wp2_with fail
      rw [unhide HE2]
      go_ret
      exact ⟨rfl, unhide hX⟩

set_option maxHeartbeats 1000000 in
theorem operands_any (fns : List KF) (f : KF) (pa ca ka : Option Addr) (pc cc kc : Nat) (m : Int) (w : World) (hp : RepP w (In w) pa fns) (hr : RepC w (In w) ka f.code) (h0 : fns.length ≤ 1000000) (h1 : f.cs.length ≤ 1000000) (h2 : f.code.length ≤ 1000000) :
    Calls Try.prog 28 #[kpV pa fns.length pc m, kfV f ca cc ka kc] w fun e w' => e = .returned (.bool (f.code.all (kStand fns f))) ∧ Ext w w' := by
  have HO := hide (fun (i : KI) (W : World) (x : Ext w W) => mayStand_any fns f i pa ca ka pc cc kc m W (hp.ext x) h0 h1 h2)
  have HR := hide hr
  clear hr hp
  obtain ⟨T, hT⟩ : ∃ T, T = f.code.all (kStand fns f) := ⟨_, rfl⟩
  rw [← hT]
  have HT : Hd ((f.code.drop 0).all (kStand fns f) = T) := hT.symm
  clear hT
  obtain ⟨FN, FP, FL, FC, FK⟩ := f
  simp only [kfV, kpV, kiV] at h1 h2 HO HR HT ⊢
  generalize hN : FK.length = n at *
  generalize hCS : FC.length = CS at *
  generalize hPS : fns.length = NP at *
  have HX0 : Hd (∀ o1 o2 : Obj, Ext w ((w.alloc o1).alloc o2)) := fun o1 o2 => (Ext.alloc _ _).trans (Ext.alloc _ _)
  go_enter Try.func28, Try.ntmps28
  go_wp2_with fail
  go_loopw [10] (fun t wr => ∃ (k : Nat), t = .int .i64 k ∧ k ≤ n ∧ Hd ((FK.drop k).all (kStand fns ⟨FN, FP, FL, FC, FK⟩) = T) ∧ Hd (Ext ((w.alloc (.cells #[.slice pa NP pc, .int .i64 m] 27)).alloc (.cells #[.string FN, .int .i64 FP, .int .i64 FL, .slice ca CS cc, .slice ka n kc] 34)) wr)) (fun t _ => n - (intOf t).toNat)
  case atStart => exact ⟨0, rfl, by omega, HT, Ext.refl _⟩
  case round =>
    clear HT
    obtain ⟨k, rfl, hk, hE, hX⟩ := hrel
    have hXw : Hd (Ext w wr) := (unhide HX0 _ _).trans (unhide hX)
    have p0 := (unhide hX).cell ((Ext.alloc _ (.cells #[.string FN, .int .i64 FP, .int .i64 FL, .slice ca CS cc, .slice ka n kc] 34)).cell (cell_box w #[.slice pa NP pc, .int .i64 m] 27 0 rfl))
    have p1 := (unhide hX).cell ((Ext.alloc _ (.cells #[.string FN, .int .i64 FP, .int .i64 FL, .slice ca CS cc, .slice ka n kc] 34)).cell (cell_box w #[.slice pa NP pc, .int .i64 m] 27 1 rfl))
    have f0 := (unhide hX).box 0 rfl
    have f1 := (unhide hX).box 1 rfl
    have f2 := (unhide hX).box 2 rfl
    have f3 := (unhide hX).box 3 rfl
    have f4 := (unhide hX).box 4 rfl
    simp only [heap_alloc_size] at f0 f1 f2 f3 f4
    have P0 := fun ob => (Ext.alloc wr ob).cell p0
    have P1 := fun ob => (Ext.alloc wr ob).cell p1
    have F0 := fun ob => (Ext.alloc wr ob).cell f0
    have F1 := fun ob => (Ext.alloc wr ob).cell f1
    have F2 := fun ob => (Ext.alloc wr ob).cell f2
    have F3 := fun ob => (Ext.alloc wr ob).cell f3
    have F4 := fun ob => (Ext.alloc wr ob).cell f4
    by_cases hlt : k < n
    · obtain ⟨x, hx⟩ : ∃ x, FK[k]? = some x := ⟨_, List.getElem?_eq_getElem (by omega)⟩
      have hE2 := unhide hE
      rw [all_drop _ hx] at hE2
      obtain ⟨b, o, rfl, hf, c0, c1, c2⟩ := ((unhide HR).ext (unhide hXw)).at hx
      have HM := hide (fun (W : World) (e : Ext w W) => unhide HO x W e)
      clear hx hf
      obtain ⟨xo, xa, xb⟩ := x
      simp only at c0 c1 c2 HM hE2
      cases hq : kStand fns ⟨FN, FP, FL, FC, FK⟩ ⟨xo, xa, xb⟩ with
      | true =>
        rw [hq] at HM
        have HE2 : Hd ((FK.drop (k + 1)).all (kStand fns ⟨FN, FP, FL, FC, FK⟩) = T) := by rw [hq, Bool.true_and] at hE2; exact hE2
        clear hE2 hq
        go_wp2_with (go_at_call 35; refine Calls.mono (unhide HM _ ((unhide hXw).trans (Ext.alloc _ _))) ?_; rintro e w1 ⟨rfl, hw⟩; have X1 := hide (((unhide hX).trans (Ext.alloc _ _)).trans hw); clear hw)
        go_roundw
        case rel => exact ⟨k + 1, by go_num, by omega, HE2, X1⟩
        case measure => simp [intOf]; omega
      | false =>
        rw [hq] at HM
        have HE2 : Hd (T = false) := by rw [hq, Bool.false_and] at hE2; exact hE2.symm
        clear hE2 hq
        go_wp2_with (go_at_call 35; refine Calls.mono (unhide HM _ ((unhide hXw).trans (Ext.alloc _ _))) ?_; rintro e w1 ⟨rfl, hw⟩; have X1 := hide (((unhide hX).trans (Ext.alloc _ _)).trans hw); clear hw)
        rw [unhide HE2]
        go_ret
        exact ⟨rfl, (unhide HX0 _ _).trans (unhide X1)⟩
    · obtain rfl : k = n := by omega
      have HE2 : Hd (T = true) := by
        have := unhide hE
        rw [List.drop_eq_nil_of_le (by omega)] at this
        exact this.symm
      go_wp2_with fail
      rw [unhide HE2]
      go_ret
      exact ⟨rfl, unhide hXw⟩

theorem kForm_at {fns : List KF} {j : Nat} {f : KF} (h : fns[j]? = some f) : kForm fns (j : Int) = (kPl f.ps 9 && (decide (f.ps ≤ f.lc) && (decide (f.lc ≤ 64) && (decide (0 < f.code.length ∧ f.code.length ≤ 1000) && (f.cs.all okv && f.code.all (kStand fns f)))))) := by
  unfold kForm
  have hj : j < fns.length := (List.getElem?_eq_some_iff.1 h).1
  rw [show kPl (j : Int) fns.length = true from decide_eq_true (by omega), show ((j : Int)).toNat = j by omega, h, Bool.true_and]
theorem kForm_out {fns : List KF} {k : Int} (h : ¬ (0 ≤ k ∧ k < (fns.length : Int))) : kForm fns k = false := by
  unfold kForm
  rw [show kPl k fns.length = false from decide_eq_false h, Bool.false_and]

set_option maxHeartbeats 1000000 in
theorem hasForm_any (fns : List KF) (fn : Int) (pa : Option Addr) (pc : Nat) (m : Int) (w : World) (hp : RepP w (In w) pa fns) (h0 : fns.length ≤ 1000000) (h1 : ∀ f ∈ fns, f.cs.length ≤ 1000000 ∧ f.code.length ≤ 1000000) :
    Calls Try.prog 22 #[kpV pa fns.length pc m, .int .i64 fn] w fun e w' => e = .returned (.bool (kForm fns fn)) ∧ Ext w w' := by
  by_cases hx : 0 ≤ fn ∧ fn < (fns.length : Int)
  · obtain ⟨z, rfl⟩ : ∃ z : Nat, fn = z := ⟨fn.toNat, by omega⟩
    obtain ⟨f, hf⟩ : ∃ f, fns[z]? = some f := ⟨_, List.getElem?_eq_getElem (by omega)⟩
    obtain ⟨b, o, ca, cc, ka, kc, rfl, _, c0, c1, c2, c3, c4, r1, r2⟩ := hp.at hf
    obtain ⟨hl1, hl2⟩ := h1 f (List.mem_of_getElem? hf)
    rw [kForm_at hf]
    have HPt : Hd (∀ W, Calls Try.prog 20 #[.int .i64 (z : Int), .int .i64 (fns.length : Int)] W fun e w' => e = .returned (.bool true) ∧ w' = W) := fun W => by
      have h := isPlace_any (z : Int) fns.length W
      rw [decide_eq_true hx] at h
      exact h
    have HC := hide (fun (W : World) (x : Ext w W) => consts_any f.cs ca cc W (r1.ext x) hl1)
    have HO := hide (fun (W : World) (x : Ext w W) => operands_any fns f _ ca ka pc cc kc m W (hp.ext x) (r2.ext x) h0 hl1 hl2)
    have hz : z < fns.length := by omega
    have q0 := fun ob => (Ext.alloc w ob).cell c0
    have q1 := fun ob => (Ext.alloc w ob).cell c1
    have q2 := fun ob => (Ext.alloc w ob).cell c2
    have q3 := fun ob => (Ext.alloc w ob).cell c3
    have q4 := fun ob => (Ext.alloc w ob).cell c4
    have HX0 : Hd (∀ o1 o2 : Obj, Ext w ((w.alloc o1).alloc o2)) := fun o1 o2 => (Ext.alloc _ _).trans (Ext.alloc _ _)
    clear hf hp h1 r1 r2 hx c0 c1 c2 c3 c4
    generalize hA : f.cs.all okv = A at *
    generalize hB : f.code.all (kStand fns f) = B at *
    clear hA hB
    obtain ⟨FN, FP, FL, FC, FK⟩ := f
    simp only [kfV, kpV] at q0 q1 q2 q3 q4 HC HO hl1 hl2 ⊢
    generalize FC.length = CS at *
    generalize FK.length = KS at *
    generalize fns.length = NP at *
    have hcase : (kPl FP 9 = false ∧ FP < 0) ∨ (kPl FP 9 = false ∧ 0 ≤ FP ∧ 8 < FP) ∨ (kPl FP 9 = true ∧ 0 ≤ FP ∧ FP ≤ 8) := by
      rcases (show FP < 0 ∨ (0 ≤ FP ∧ 8 < FP) ∨ (0 ≤ FP ∧ FP ≤ 8) by omega) with h | h | h
      · exact Or.inl ⟨decide_eq_false (by omega), h⟩
      · exact Or.inr (Or.inl ⟨decide_eq_false (by omega), h⟩)
      · exact Or.inr (Or.inr ⟨decide_eq_true (by omega), h⟩)
    rcases hcase with ⟨e1, g1⟩ | ⟨e1, g1, g2⟩ | ⟨e1, g1, g2⟩
    · rw [e1, Bool.false_and]
      clear e1
      go_enter Try.func22, Try.ntmps22
      go_wp2_with (go_at_call 20; refine Calls.mono (unhide HPt _) ?_; rintro e w1 ⟨rfl, hw⟩; obtain rfl := hw.symm)
      go_ret
      exact ⟨rfl, unhide HX0 _ _⟩
    · rw [e1, Bool.false_and]
      clear e1
      go_enter Try.func22, Try.ntmps22
      go_wp2_with (go_at_call 20; refine Calls.mono (unhide HPt _) ?_; rintro e w1 ⟨rfl, hw⟩; obtain rfl := hw.symm)
      go_ret
      exact ⟨rfl, unhide HX0 _ _⟩
    rw [e1, Bool.true_and]
    clear e1
    by_cases g3 : FP ≤ FL
    case neg =>
      rw [decide_eq_false g3, Bool.false_and]
      go_enter Try.func22, Try.ntmps22
      go_wp2_with (go_at_call 20; refine Calls.mono (unhide HPt _) ?_; rintro e w1 ⟨rfl, hw⟩; obtain rfl := hw.symm)
      go_ret
      exact ⟨rfl, unhide HX0 _ _⟩
    rw [decide_eq_true g3, Bool.true_and]
    by_cases g4 : FL ≤ 64
    case neg =>
      rw [decide_eq_false g4, Bool.false_and]
      go_enter Try.func22, Try.ntmps22
      go_wp2_with (go_at_call 20; refine Calls.mono (unhide HPt _) ?_; rintro e w1 ⟨rfl, hw⟩; obtain rfl := hw.symm)
      go_ret
      exact ⟨rfl, unhide HX0 _ _⟩
    rw [decide_eq_true g4, Bool.true_and]
    by_cases g5 : KS = 0
    · rw [decide_eq_false (by omega), Bool.false_and]
      subst g5
      go_enter Try.func22, Try.ntmps22
      go_wp2_with (go_at_call 20; refine Calls.mono (unhide HPt _) ?_; rintro e w1 ⟨rfl, hw⟩; obtain rfl := hw.symm)
      go_ret
      exact ⟨rfl, unhide HX0 _ _⟩
    have g5' : ((KS : Int) == 0) = false := by rw [beq_eq_false_iff_ne]; omega
    by_cases g6 : KS ≤ 1000
    case neg =>
      rw [decide_eq_false (by omega), Bool.false_and]
      clear g5
      go_enter Try.func22, Try.ntmps22
      go_wp2_with (go_at_call 20; refine Calls.mono (unhide HPt _) ?_; rintro e w1 ⟨rfl, hw⟩; obtain rfl := hw.symm)
      go_ret
      exact ⟨rfl, unhide HX0 _ _⟩
    rw [decide_eq_true (by omega), Bool.true_and]
    clear g5
    cases A with
    | false =>
      rw [Bool.false_and]
      go_enter Try.func22, Try.ntmps22
      go_wp2_with (first
        | (go_at_call 20; refine Calls.mono (unhide HPt _) ?_; rintro e w1 ⟨rfl, hw⟩; obtain rfl := hw.symm)
        | (go_at_call 27; refine Calls.mono (unhide HC _ (unhide HX0 _ _)) ?_; rintro e w1 ⟨rfl, hw⟩; have X1 := hide ((unhide HX0 _ _).trans hw); clear hw))
      go_ret
      exact ⟨rfl, unhide X1⟩
    | true =>
      rw [Bool.true_and]
      go_enter Try.func22, Try.ntmps22
      go_wp2_with (first
        | (go_at_call 20; refine Calls.mono (unhide HPt _) ?_; rintro e w1 ⟨rfl, hw⟩; obtain rfl := hw.symm)
        | (go_at_call 27; refine Calls.mono (unhide HC _ (unhide HX0 _ _)) ?_; rintro e w1 ⟨rfl, hw⟩; have X1 := hide ((unhide HX0 _ _).trans hw); have f0 := hw.box 0 rfl; have f1 := hw.box 1 rfl; have f2 := hw.box 2 rfl; have f3 := hw.box 3 rfl; have f4 := hw.box 4 rfl; have k0 := hw.cell ((Ext.alloc _ _).cell (cell_box w _ _ 0 rfl)); have k1 := hw.cell ((Ext.alloc _ _).cell (cell_box w _ _ 1 rfl)); simp only [heap_alloc_size] at f0 f1 f2 f3 f4; clear hw)
        | (go_at_call 28; refine Calls.mono (unhide HO w1 (unhide X1)) ?_; rintro e w2 ⟨rfl, hw⟩; have X2 := hide ((unhide X1).trans hw); clear hw))
      go_ret
      exact ⟨rfl, unhide X2⟩
  · rw [kForm_out hx]
    have HPt : Hd (∀ W, Calls Try.prog 20 #[.int .i64 fn, .int .i64 (fns.length : Int)] W fun e w' => e = .returned (.bool false) ∧ w' = W) := fun W => by
      have h := isPlace_any fn fns.length W
      rw [decide_eq_false hx] at h
      exact h
    clear hx hp h1
    generalize fns.length = NP at *
    go_enter Try.func22, Try.ntmps22
    go_wp2_with (go_at_call 20; refine Calls.mono (unhide HPt _) ?_; rintro e w1 ⟨rfl, hw⟩; obtain rfl := hw.symm)
    go_ret
    exact ⟨rfl, Ext.alloc _ _⟩

end Go.Proofs.Ytggpehmljpanjaa
