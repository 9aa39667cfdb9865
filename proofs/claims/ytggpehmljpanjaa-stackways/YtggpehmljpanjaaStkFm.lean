/- Functions and programs of stack code as plain data; what may stand in one. -/
import Derived.Test.YtggpehmljpanjaaStkIt
import Derived.Deep.QuietTactic
import Derived.BigQuiet
set_option linter.unusedSimpArgs false
set_option linter.unusedVariables false
set_option maxRecDepth 10000
namespace Go.Proofs.Ytggpehmljpanjaa
open Go.RowKit

/-- A function. -/
structure KF where
  nm : ByteArray
  ps : Int
  lc : Int
  cs : List PV
  code : List KI
abbrev kfV (f : KF) (ca : Option Addr) (cc : Nat) (ka : Option Addr) (kc : Nat) : Value := .agg #[.string f.nm, .int .i64 f.ps, .int .i64 f.lc, .slice ca f.cs.length cc, .slice ka f.code.length kc]

/-- Has a list of n something at that place? -/
def kPl (k n : Int) : Bool := decide (0 ≤ k ∧ k < n)
/-- Has i an Op that it may have, and an A that goes with it? -/
def kMay (f : KF) (i : KI) : Bool :=
  if i.op = 1 then kPl i.a f.cs.length else if i.op = 2 ∨ i.op = 3 then kPl i.a f.lc else if i.op = 7 ∨ i.op = 8 then kPl i.a f.code.length
  else if i.op = 5 then kAr i.a == 2 else if i.op = 6 then kAr i.a == 1 else if i.op = 12 then kPl (i.a - 1) 4095 else if i.op = 13 then kPl i.a 65
  else if i.op = 4 ∨ i.op = 10 ∨ i.op = 11 then i.a == 0 else false
/-- Is it an instruction that f may have? -/
def kStand (fns : List KF) (f : KF) (i : KI) : Bool :=
  if i.op = 9 then (kPl i.a fns.length && (match fns[i.a.toNat]? with
    | none => false
    | some g => i.b == g.ps))
  else (i.b == 0 && kMay f i)
def kForm (fns : List KF) (fn : Int) : Bool :=
  kPl fn fns.length && (match fns[fn.toNat]? with
    | none => false
    | some f => kPl f.ps 9 && (decide (f.ps ≤ f.lc) && (decide (f.lc ≤ 64) && (decide (0 < f.code.length ∧ f.code.length ≤ 1000) && (f.cs.all okv && f.code.all (kStand fns f))))))

set_option maxHeartbeats 2000000 in
theorem mayTake_any (f : KF) (i : KI) (ca ka : Option Addr) (cc kc : Nat) (w : World) (h1 : f.cs.length ≤ 1000000) (h2 : f.code.length ≤ 1000000) :
    Calls Try.prog 39 #[kfV f ca cc ka kc, kiV i] w fun e w' => e = .returned (.bool (kMay f i)) ∧ Ext w w' := by
  have HP := hide (fun (k n : Int) (W : World) => isPlace_any k n W)
  have HA := hide (fun (k : Int) (W : World) => arityK k W)
  obtain ⟨p, x, y⟩ := i
  unfold kMay
  simp only
  have hE : ∀ (o1 o2 : Obj), Ext w ((w.alloc o1).alloc o2) := fun o1 o2 => (Ext.alloc _ _).trans (Ext.alloc _ _)
  have HE := hide hE
  clear hE
  generalize hCS : f.cs.length = CS at *
  generalize hKS : f.code.length = KS at *
  rcases op_cases p with rfl | rfl | rfl | rfl | rfl | rfl | rfl | rfl | rfl | rfl | rfl | rfl | rfl | ⟨n1, n2, n3, n4, n5, n6, n7, n8, n9, n10, n11, n12, n13⟩
  case inr.inr.inr.inr.inr.inr.inr.inr.inr.inr.inr.inl =>
    have hE : (kPl (x - 1) 4095 = false ∧ x < 1) ∨ (kPl (x - 1) 4095 = true ∧ 1 ≤ x ∧ x ≤ 4095) ∨ (kPl (x - 1) 4095 = false ∧ 1 ≤ x ∧ 4095 < x) := by
      rcases (show x < 1 ∨ (1 ≤ x ∧ x ≤ 4095) ∨ (1 ≤ x ∧ 4095 < x) by omega) with h | h | h
      · exact Or.inl ⟨decide_eq_false (by omega), h⟩
      · exact Or.inr (Or.inl ⟨decide_eq_true (by omega), h⟩)
      · exact Or.inr (Or.inr ⟨decide_eq_false (by omega), h⟩)
    rcases hE with ⟨e, h⟩ | ⟨e, h, h'⟩ | ⟨e, h, h'⟩
    all_goals
      have E := hide e
      clear e
      go_enter Try.func39, Try.ntmps39
      go_wp2_with fail
      go_ret
      exact ⟨ret_bool (by simp [unhide E]; try omega), unhide HE _ _⟩
  case inr.inr.inr.inr.inr.inr.inr.inr.inr.inr.inr.inr.inl =>
    have hE : (kPl x 65 = false ∧ x < 0) ∨ (kPl x 65 = true ∧ 0 ≤ x ∧ x ≤ 64) ∨ (kPl x 65 = false ∧ 0 ≤ x ∧ 64 < x) := by
      rcases (show x < 0 ∨ (0 ≤ x ∧ x ≤ 64) ∨ (0 ≤ x ∧ 64 < x) by omega) with h | h | h
      · exact Or.inl ⟨decide_eq_false (by omega), h⟩
      · exact Or.inr (Or.inl ⟨decide_eq_true (by omega), h⟩)
      · exact Or.inr (Or.inr ⟨decide_eq_false (by omega), h⟩)
    rcases hE with ⟨e, h⟩ | ⟨e, h, h'⟩ | ⟨e, h, h'⟩
    all_goals
      have E := hide e
      clear e
      go_enter Try.func39, Try.ntmps39
      go_wp2_with fail
      go_ret
      exact ⟨ret_bool (by simp [unhide E]; try omega), unhide HE _ _⟩
  all_goals
    go_enter Try.func39, Try.ntmps39
    go_wp2_with (first | (go_at_call 20; refine Calls.mono (unhide HP _ _ _) ?_; rintro e w1 ⟨rfl, hw⟩; obtain rfl := hw.symm) | (go_at_call 43; refine Calls.mono (unhide HA _ _) ?_; rintro e w1 ⟨rfl, hw⟩; obtain rfl := hw.symm))
    go_ret
    exact ⟨ret_bool (by simp [kPl, *]), unhide HE _ _⟩

/-- A program's functions, five cells each. -/
def RepP (w : World) (F : Nat → Prop) (a : Option Addr) (l : List KF) : Prop :=
  l = [] ∨ ∃ b o, a = some ⟨b, o, none⟩ ∧ F b ∧ ∀ j f, l[j]? = some f → ∃ ca cc ka kc, w.cell? ⟨b, o + j * 5, none⟩ = some (.string f.nm) ∧ w.cell? ⟨b, o + j * 5 + 1, none⟩ = some (.int .i64 f.ps) ∧ w.cell? ⟨b, o + j * 5 + 2, none⟩ = some (.int .i64 f.lc) ∧
    w.cell? ⟨b, o + j * 5 + 3, none⟩ = some (.slice ca f.cs.length cc) ∧ w.cell? ⟨b, o + j * 5 + 4, none⟩ = some (.slice ka f.code.length kc) ∧ RepL w F f.cs ca ∧ RepC w F ka f.code
theorem RepP.to {w w' : World} {F F' : Nat → Prop} (h : ∀ b, F b → F' b ∧ w'.heap[b]? = w.heap[b]?) {l : List KF} {a : Option Addr} (hr : RepP w F a l) : RepP w' F' a l := by
  rcases hr with hr | ⟨b, o, rfl, hf, hc⟩
  · exact Or.inl hr
  · refine Or.inr ⟨b, o, rfl, (h b hf).1, fun j i hi => ?_⟩
    have hk : ∀ x, w'.cell? ⟨b, x, none⟩ = w.cell? ⟨b, x, none⟩ := fun x => World.cell?_of_block (w := w) (h b hf).2
    obtain ⟨ca, cc, ka, kc, c0, c1, c2, c3, c4, r1, r2⟩ := hc j i hi
    refine ⟨ca, cc, ka, kc, ?_, ?_, ?_, ?_, ?_, RepL.to h _ _ r1, r2.to h⟩
    all_goals rw [hk]; assumption
theorem RepP.ext {w w' : World} {l : List KF} {a : Option Addr} (hr : RepP w (In w) a l) (h : Ext w w') : RepP w' (In w') a l :=
  hr.to fun b hb => ⟨Nat.lt_of_lt_of_le hb h.size, h.block b hb⟩
theorem RepP.at {w : World} {F : Nat → Prop} {l : List KF} {a : Option Addr} (hr : RepP w F a l) {j : Nat} {f : KF} (h : l[j]? = some f) :
    ∃ b o ca cc ka kc, a = some ⟨b, o, none⟩ ∧ F b ∧ w.cell? ⟨b, o + j * 5, none⟩ = some (.string f.nm) ∧ w.cell? ⟨b, o + j * 5 + 1, none⟩ = some (.int .i64 f.ps) ∧ w.cell? ⟨b, o + j * 5 + 2, none⟩ = some (.int .i64 f.lc) ∧
    w.cell? ⟨b, o + j * 5 + 3, none⟩ = some (.slice ca f.cs.length cc) ∧ w.cell? ⟨b, o + j * 5 + 4, none⟩ = some (.slice ka f.code.length kc) ∧ RepL w F f.cs ca ∧ RepC w F ka f.code := by
  rcases hr with rfl | ⟨b, o, rfl, hf, hc⟩
  · simp at h
  · obtain ⟨ca, cc, ka, kc, r⟩ := hc j f h
    exact ⟨b, o, ca, cc, ka, kc, rfl, hf, r⟩
abbrev kpV (pa : Option Addr) (n pc : Nat) (m : Int) : Value := .agg #[.slice pa n pc, .int .i64 m]

set_option maxHeartbeats 2000000 in
theorem mayStand_any (fns : List KF) (f : KF) (i : KI) (pa ca ka : Option Addr) (pc cc kc : Nat) (m : Int) (w : World) (hp : RepP w (In w) pa fns) (h0 : fns.length ≤ 1000000) (h1 : f.cs.length ≤ 1000000) (h2 : f.code.length ≤ 1000000) :
    Calls Try.prog 35 #[kpV pa fns.length pc m, kfV f ca cc ka kc, kiV i] w fun e w' => e = .returned (.bool (kStand fns f i)) ∧ Ext w w' := by
  have HP := hide (fun (k n : Int) (W : World) => isPlace_any k n W)
  have HM := hide (fun (W : World) => mayTake_any f i ca ka cc kc W h1 h2)
  have HE : Hd (∀ (o1 o2 o3 : Obj) (k : Nat), Ext w ((((w.alloc o1).alloc o2).alloc o3).drewN k)) := fun o1 o2 o3 k => by
    have e : ∀ (k : Nat) (W : World), Ext w W → Ext w (W.drewN k) := by
      intro k
      induction k with
      | zero => intro W h; exact h
      | succ k ih => intro W h; exact Ext.drew (ih W h)
    exact e k _ ((Ext.alloc _ _).trans ((Ext.alloc _ _).trans (Ext.alloc _ _)))
  unfold kStand
  generalize kMay f i = KM at HM ⊢
  obtain ⟨FN, FP, FL, FC, FK⟩ := f
  obtain ⟨p, x, y⟩ := i
  simp only at h1 h2 HM ⊢
  generalize FC.length = CS at *
  generalize FK.length = KS at *
  by_cases hp9 : p = 9
  · subst hp9
    rw [if_pos rfl]
    by_cases hx : 0 ≤ x ∧ x < (fns.length : Int)
    · obtain ⟨z, rfl⟩ : ∃ z : Nat, x = z := ⟨x.toNat, by omega⟩
      obtain ⟨g, hg⟩ : ∃ g, fns[z]? = some g := ⟨_, List.getElem?_eq_getElem (by omega)⟩
      obtain ⟨b, o, ga, gc, gka, gkc, rfl, hf, c0, c1, c2, c3, c4, _, _⟩ := hp.at hg
      have hk : kPl (z : Int) fns.length = true := decide_eq_true hx
      rw [hk, show ((z : Int)).toNat = z by omega, hg]
      have hz : z < fns.length := by omega
      have q1 := fun o1 o2 o3 => ((Ext.alloc w o1).trans ((Ext.alloc _ o2).trans (Ext.alloc _ o3))).cell c1
      have HPt : Hd (∀ W, Calls Try.prog 20 #[.int .i64 (z : Int), .int .i64 (fns.length : Int)] W fun e w' => e = .returned (.bool true) ∧ w' = W) := fun W => by
        have h := isPlace_any (z : Int) fns.length W
        rw [decide_eq_true hx] at h
        exact h
      clear hg hk hx hp c0 c2 c3 c4
      generalize fns.length = N at *
      simp only [Bool.true_and]
      go_enter Try.func35, Try.ntmps35
      go_wp2_with fail
      go_quiet ((go_at_call 20; exact Calls.quiet_of_same (unhide HPt _)))
      go_wp2_with fail
      go_ret
      exact ⟨rfl, unhide HE _ _ _ _⟩
    · have HPt : Hd (∀ W, Calls Try.prog 20 #[.int .i64 x, .int .i64 (fns.length : Int)] W fun e w' => e = .returned (.bool false) ∧ w' = W) := fun W => by
        have h := isPlace_any x fns.length W
        rw [decide_eq_false hx] at h
        exact h
      have hk : kPl x fns.length = false := decide_eq_false hx
      rw [hk]
      clear hk hx hp
      generalize fns.length = N at *
      simp only [Bool.false_and]
      go_enter Try.func35, Try.ntmps35
      go_wp2_with fail
      go_quiet ((go_at_call 20; exact Calls.quiet_of_same (unhide HPt _)))
      go_wp2_with fail
      go_ret
      exact ⟨rfl, unhide HE _ _ _ _⟩
  · rw [if_neg hp9]
    have hpf : (p == 9) = false := by rw [beq_eq_false_iff_ne]; exact hp9
    clear hp9 hp
    by_cases hy : y = 0
    · have hyt : (y == 0) = true := by simp [hy]
      rw [hyt]
      simp only [Bool.true_and]
      clear hy
      go_enter Try.func35, Try.ntmps35
      go_wp2_with (go_at_call 39; refine Calls.mono (unhide HM _) ?_; rintro e w1 ⟨rfl, hw⟩; have X := hide hw; clear hw)
      go_ret
      exact ⟨rfl, (unhide HE _ _ _ 0).trans (unhide X)⟩
    · have hyt : (y == 0) = false := by rw [beq_eq_false_iff_ne]; exact hy
      rw [hyt]
      simp only [Bool.false_and]
      clear hy
      go_enter Try.func35, Try.ntmps35
      go_wp2_with fail
      go_ret
      exact ⟨rfl, unhide HE _ _ _ 0⟩

end Go.Proofs.Ytggpehmljpanjaa
