/- Plain: the document's Over and Doms tell the same. -/
import Derived.Test.YtmhcecofknemkaaGrDd
set_option linter.unusedSimpArgs false
set_option linter.unusedVariables false
namespace Go.Proofs.Ytmhcecofknemkaa
open Go.RowKit

def oFn (o : List (List Bool)) (a b : Nat) : Bool := (o.getD a []).getD b false
def rOvE (inn wa : List Bool) (a b : Nat) : Bool := inn.getD a false && (inn.getD b false && ((a == b) || !wa.getD b false))
def rOvR (n : Nat) (inn wa : List Bool) (a : Nat) : List Bool := (List.range n).map (fun b => rOvE inn wa a b)
/-- Over: ws are the points that are come to without each. -/
def rOv (n : Nat) (inn : List Bool) (ws : List (List Bool)) : List (List Bool) := (List.range n).map (fun a => rOvR n inn (ws.getD a []) a)
theorem oFn_ov {n : Nat} {inn : List Bool} {ws : List (List Bool)} {a b : Nat} (ha : a < n) (hb : b < n) : oFn (rOv n inn ws) a b = rOvE inn (ws.getD a []) a b := by
  unfold oFn rOv rOvR
  simp [List.getD_eq_getElem?_getD, ha, hb]
/-- Is it the last dominator? -/
def rLst (n : Nat) (o : Nat → Nat → Bool) (b a : Nat) : Bool := (List.range n).all (fun c => !(c != b && (o c b && !o c a)))
def rDmC (n : Nat) (o : Nat → Nat → Bool) (b a : Nat) : Bool := a != b && (o a b && rLst n o b a)
def rDmS (n : Nat) (o : Nat → Nat → Bool) (b : Nat) : List Nat → Int → Int
  | [], r => r
  | a :: t, r => rDmS n o b t (if rDmC n o b a then (a : Int) else r)
theorem rDmS_no (n : Nat) (o : Nat → Nat → Bool) (b : Nat) : ∀ (l : List Nat) (r : Int), (∀ a ∈ l, rDmC n o b a = false) → rDmS n o b l r = r
  | [], r, _ => rfl
  | a :: t, r, h => by
    rw [rDmS, h a (List.mem_cons_self ..), rDmS_no n o b t _ (fun x hx => h x (List.mem_cons_of_mem _ hx))]
    rfl
theorem rDmS_one (n : Nat) (o : Nat → Nat → Bool) (b q : Nat) (hq : rDmC n o b q = true) : ∀ (l : List Nat) (r : Int), (∀ a ∈ l, rDmC n o b a = true → a = q) → (q ∈ l ∨ r = (q : Int)) → rDmS n o b l r = (q : Int)
  | [], r, _, h => by
    rcases h with h | h
    · cases h
    · rw [rDmS]; exact h
  | a :: t, r, hu, h => by
    rw [rDmS]
    have hu' : ∀ x ∈ t, rDmC n o b x = true → x = q := fun x hx => hu x (List.mem_cons_of_mem _ hx)
    cases hc : rDmC n o b a with
    | true =>
      have := hu a (List.mem_cons_self ..) hc
      subst this
      exact rDmS_one n o b a hq t _ hu' (Or.inr rfl)
    | false =>
      refine rDmS_one n o b q hq t _ hu' ?_
      rcases h with h | h
      · rcases List.mem_cons.1 h with e | e
        · rw [← e, hq] at hc; cases hc
        · exact Or.inl e
      · exact Or.inr h
theorem rDmC_iff (n : Nat) (o : Nat → Nat → Bool) (b a : Nat) : rDmC n o b a = true ↔ (a ≠ b ∧ o a b = true ∧ ∀ c, c < n → c ≠ b → o c b = true → o c a = true) := by
  unfold rDmC rLst
  simp only [Bool.and_eq_true, bne_iff_ne, ne_eq, List.all_eq_true, List.mem_range, Bool.not_eq_true', Bool.and_eq_false_imp]
  constructor
  · rintro ⟨h1, h2, h3⟩
    refine ⟨h1, h2, fun c hc hcb ho => ?_⟩
    have := h3 c hc (by simpa using hcb) ho
    simpa using this
  · rintro ⟨h1, h2, h3⟩
    refine ⟨h1, h2, fun c hc hcb ho => ?_⟩
    rw [h3 c hc (by simpa using hcb) ho]
    rfl

/-- What Over says. -/
def OvOk (g : List (List Int)) (M : List Nat) (o : Nat → Nat → Bool) : Prop := ∀ a b, a < g.length → b < g.length → (o a b = true ↔ (a ∈ M ∧ b ∈ M ∧ Dom g a b))
theorem ov_ok (g : List (List Int)) (M : List Nat) (inn : List Bool) (ws : List (List Bool)) (hi : ∀ q : Nat, inn[q]? = some true ↔ q ∈ M) (hw : ∀ a : Nat, a < g.length → ∃ K W, ws[a]? = some W ∧ rFrom (gNorm g) 0 (a : Int) K = some W) : OvOk g M (oFn (rOv g.length inn ws)) := by
  intro a b ha hb
  rw [oFn_ov ha hb]
  obtain ⟨K, W, h1, h2⟩ := hw a ha
  have hin : ∀ q : Nat, inn.getD q false = true ↔ q ∈ M := fun q => by
    rw [← hi q, List.getD_eq_getElem?_getD]
    cases inn[q]? with
    | none => simp
    | some v => cases v <;> simp
  have hon := rFrom_on (gNorm g) 0 (a : Int) K W h2 b
  rw [gNorm_len] at hon
  have hwb : (ws.getD a []).getD b false = true ↔ Av g a b := by
    rw [av_way, List.getD_eq_getElem?_getD (l := ws), h1, Option.getD_some, List.getD_eq_getElem?_getD]
    constructor
    · intro h
      have : W[b]? = some true := by
        cases hh : W[b]? with
        | none => rw [hh] at h; cases h
        | some v => rw [hh] at h; cases v <;> simp_all
      have := hon.1 this
      exact ⟨by omega, this.2.2.2⟩
    · rintro ⟨h0, h3⟩
      rw [hon.2 ⟨by omega, by omega, by omega, h3⟩]
      rfl
  unfold rOvE
  simp only [Bool.and_eq_true, Bool.or_eq_true, beq_iff_eq, Bool.not_eq_true', hin]
  constructor
  · rintro ⟨h3, h4, h5⟩
    refine ⟨h3, h4, ?_⟩
    rcases h5 with e | e
    · subst e; exact Dom.refl a
    · intro hav
      rw [hwb.2 hav] at e
      cases e
  · rintro ⟨h3, h4, h5⟩
    refine ⟨h3, h4, Or.inr ?_⟩
    cases hh : (ws.getD a []).getD b false with
    | false => rfl
    | true => exact absurd (hwb.1 hh) h5
theorem dom_eq {g : List (List Int)} {M : List Nat} {wb : List (Option Nat)} (D : DfsF g M wb) {a b : Nat} (ha : a ∈ M) (hb : b ∈ M) (h : Dom g a b) (k : Dom g b a) : a = b := by
  obtain ⟨i, hi⟩ := List.getElem?_of_mem ha
  obtain ⟨j, hj⟩ := List.getElem?_of_mem hb
  have h1 := (h.up D hi hj).le D
  have h2 := (k.up D hj hi).le D
  have : i = j := by omega
  subst this
  rw [hi] at hj
  exact Option.some.inj hj
/-- Doms is the document's. -/
theorem rDmS_ok {g : List (List Int)} {M : List Nat} {wb : List (Option Nat)} (D : DfsF g M wb) (o : Nat → Nat → Bool) (ho : OvOk g M o) (d : List (Option Nat)) (hd : DmI g M M.length d) (b : Nat) (hb : b < g.length) : rDmS g.length o b (List.range g.length) (-1) = oI (d.getD b none) := by
  by_cases hm : b ∈ M
  · obtain ⟨j, hj⟩ := List.getElem?_of_mem hm
    have hjN := (List.getElem?_eq_some_iff.1 hj).1
    by_cases h0 : j = 0
    · subst h0
      have hb0 := hj
      rw [D.zero] at hb0
      injection hb0 with hb0
      subst hb0
      rw [List.getD_eq_getElem?_getD, hd.no 0 hb (fun k h1 h2 e => by have := nd_inj D.nd e hj; omega)]
      refine rDmS_no _ _ _ _ _ (fun a ha => ?_)
      cases hc : rDmC g.length o 0 a with
      | false => rfl
      | true =>
        obtain ⟨h1, h2, _⟩ := (rDmC_iff _ _ _ _).1 hc
        have := (ho a 0 (List.mem_range.1 ha) hb).1 h2
        exact absurd (Av.zero (Ne.symm h1)) this.2.2
    · obtain ⟨q, nq, q1, q2, q3, q4, q5⟩ := hd.ok j b (by omega) hjN hj
      rw [List.getD_eq_getElem?_getD, q1]
      have hqM := List.mem_of_getElem? q2
      have hqn := D.lt q hqM
      have hqb : q ≠ b := fun e => by
        subst e
        have := nd_inj D.nd q2 hj
        omega
      have hCq : rDmC g.length o b q = true := (rDmC_iff _ _ _ _).2 ⟨hqb, (ho q b hqn hb).2 ⟨hqM, hm, q4⟩, fun c hc hcb hoc => by
        obtain ⟨c1, _, c3⟩ := (ho c b hc hb).1 hoc
        obtain ⟨nc, hnc⟩ := List.getElem?_of_mem c1
        exact (ho c q hc hqn).2 ⟨c1, hqM, q5 c nc hnc c3 hcb⟩⟩
      refine rDmS_one _ _ _ q hCq _ _ (fun a ha hCa => ?_) (Or.inl (List.mem_range.2 hqn))
      obtain ⟨h1, h2, h3⟩ := (rDmC_iff _ _ _ _).1 hCa
      have han := List.mem_range.1 ha
      obtain ⟨a1, _, a3⟩ := (ho a b han hb).1 h2
      obtain ⟨na, hna⟩ := List.getElem?_of_mem a1
      have h4 := h3 q hqn hqb ((ho q b hqn hb).2 ⟨hqM, hm, q4⟩)
      exact dom_eq D a1 hqM (q5 a na hna a3 h1) ((ho q a hqn han).1 h4).2.2
  · rw [List.getD_eq_getElem?_getD, hd.no b hb (fun k h1 h2 e => hm (List.mem_of_getElem? e))]
    refine rDmS_no _ _ _ _ _ (fun a ha => ?_)
    cases hc : rDmC g.length o b a with
    | false => rfl
    | true =>
      obtain ⟨h1, h2, _⟩ := (rDmC_iff _ _ _ _).1 hc
      exact absurd ((ho a b (List.mem_range.1 ha) hb).1 h2).2.1 hm

/-- Dominates by the way up. -/
theorem gDmU_ok {g : List (List Int)} {M : List Nat} {wb : List (Option Nat)} (D : DfsF g M wb) (d : List (Option Nat)) (hd : DmI g M M.length d) {x nx : Nat} (hx : M[nx]? = some x) : ∀ (k j y : Nat), j < k → M[j]? = some y → (gDmU (d.map oI) (x : Int) k (y : Int) = true ↔ Dom g x y)
  | 0, j, y, h, _ => by omega
  | k + 1, j, y, h, hy => by
    have hyn := D.lt y (List.mem_of_getElem? hy)
    have hjN := (List.getElem?_eq_some_iff.1 hy).1
    rw [gDmU, if_neg (by rw [List.length_map, hd.len]; omega)]
    by_cases e : x = y
    · subst e
      rw [if_pos rfl]
      exact ⟨fun _ => Dom.refl x, fun _ => rfl⟩
    · rw [if_neg (by omega)]
      by_cases h0 : j = 0
      · subst h0
        have hy0 := hy
        rw [D.zero] at hy0
        injection hy0 with hy0
        subst hy0
        have hnone := hd.no 0 hyn (fun k h1 h2 e => by have := nd_inj D.nd e hy; omega)
        have e1 : (d.map oI).getD (((0 : Nat) : Int).toNat) 0 = -1 := by
          rw [List.getD_eq_getElem?_getD, List.getElem?_map]
          simp [hnone, oI]
        rw [e1]
        constructor
        · intro hg
          cases k with
          | zero => cases hg
          | succ k => rw [gDmU, if_pos (Or.inl (by omega))] at hg; cases hg
        · intro hdom
          exact absurd (Av.zero (Ne.symm e)) hdom
      · obtain ⟨q, nq, q1, q2, q3, q4, q5⟩ := hd.ok j y (by omega) hjN hy
        have e1 : (d.map oI).getD ((y : Int).toNat) 0 = (q : Int) := by
          rw [List.getD_eq_getElem?_getD, List.getElem?_map]
          simp [q1, oI]
        rw [e1, gDmU_ok D d hd hx k nq q (by omega) q2]
        exact ⟨fun h => h.trans q4, fun h => q5 x nx hx h e⟩
end Go.Proofs.Ytmhcecofknemkaa
