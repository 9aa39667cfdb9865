/- Rows of three numbers each, as they lie in memory; intervals and places. -/
import Derived.Test.YtjopfpchbakggaaCoR
import Derived.Test.YtjopfpchbakggaaGrRow
import Derived.Test.YtjopfpchbakggaaGrGw
import Derived.Test.YtjopfpchbakggaaGrRep
set_option linter.unusedSimpArgs false
set_option linter.unusedVariables false
set_option maxRecDepth 10000
namespace Go.Proofs.Ytjopfpchbakggaa
open Go.RowKit

abbrev T3 := Int × Int × Int
/-- Three cells for each. -/
def tpV (T : List T3) : List Value := T.flatMap (fun t => [Value.int .i64 t.1, Value.int .i64 t.2.1, Value.int .i64 t.2.2])
def tpI (T : List T3) : List Int := T.flatMap (fun t => [t.1, t.2.1, t.2.2])
theorem tpV_len : ∀ T : List T3, (tpV T).length = T.length * 3
  | [] => rfl
  | t :: T => by
    have := tpV_len T
    unfold tpV at this ⊢
    rw [List.flatMap_cons, List.length_append, this]
    show 3 + T.length * 3 = (T.length + 1) * 3
    omega
theorem tpV_cons (t : T3) (T : List T3) : tpV (t :: T) = Value.int .i64 t.1 :: Value.int .i64 t.2.1 :: Value.int .i64 t.2.2 :: tpV T := rfl
theorem tpI_cons (t : T3) (T : List T3) : tpI (t :: T) = t.1 :: t.2.1 :: t.2.2 :: tpI T := rfl
theorem tpV_map : ∀ T : List T3, tpV T = (tpI T).map (Value.int .i64)
  | [] => rfl
  | t :: T => by rw [tpV_cons, tpI_cons, tpV_map T]; rfl
theorem tpI_at : ∀ {T : List T3} {k : Nat} {t : T3}, T[k]? = some t → (tpI T)[k * 3]? = some t.1 ∧ (tpI T)[k * 3 + 1]? = some t.2.1 ∧ (tpI T)[k * 3 + 2]? = some t.2.2
  | u :: T, 0, t, h => by
    simp at h
    subst h
    exact ⟨rfl, rfl, rfl⟩
  | u :: T, k + 1, t, h => by
    obtain ⟨h0, h1, h2⟩ := tpI_at (T := T) (k := k) (by simpa using h)
    rw [tpI_cons, show (k + 1) * 3 = k * 3 + 1 + 1 + 1 by omega]
    exact ⟨h0, h1, h2⟩
theorem tpV_at {T : List T3} {k : Nat} {t : T3} (h : T[k]? = some t) : (tpV T)[k * 3]? = some (.int .i64 t.1) ∧ (tpV T)[k * 3 + 1]? = some (.int .i64 t.2.1) ∧ (tpV T)[k * 3 + 2]? = some (.int .i64 t.2.2) := by
  obtain ⟨h0, h1, h2⟩ := tpI_at h
  rw [tpV_map]
  simp only [List.getElem?_map, h0, h1, h2]
  exact ⟨rfl, rfl, rfl⟩
theorem tpV_set0 (v : Int) : ∀ {T : List T3} {k : Nat} {t : T3}, T[k]? = some t → (tpV T).set (k * 3) (.int .i64 v) = tpV (T.set k (v, t.2.1, t.2.2))
  | u :: T, 0, t, h => by
    simp at h
    subst h
    rfl
  | u :: T, k + 1, t, h => by
    rw [List.set_cons_succ, tpV_cons, tpV_cons, show (k + 1) * 3 = k * 3 + 1 + 1 + 1 by omega, List.set_cons_succ, List.set_cons_succ, List.set_cons_succ, tpV_set0 v (T := T) (k := k) (by simpa using h)]
theorem tpV_set1 (v : Int) : ∀ {T : List T3} {k : Nat} {t : T3}, T[k]? = some t → (tpV T).set (k * 3 + 1) (.int .i64 v) = tpV (T.set k (t.1, v, t.2.2))
  | u :: T, 0, t, h => by
    simp at h
    subst h
    rfl
  | u :: T, k + 1, t, h => by
    rw [List.set_cons_succ, tpV_cons, tpV_cons, show (k + 1) * 3 + 1 = k * 3 + 1 + 1 + 1 + 1 by omega, List.set_cons_succ, List.set_cons_succ, List.set_cons_succ, tpV_set1 v (T := T) (k := k) (by simpa using h)]
theorem tpV_set2 (v : Int) : ∀ {T : List T3} {k : Nat} {t : T3}, T[k]? = some t → (tpV T).set (k * 3 + 2) (.int .i64 v) = tpV (T.set k (t.1, t.2.1, v))
  | u :: T, 0, t, h => by
    simp at h
    subst h
    rfl
  | u :: T, k + 1, t, h => by
    rw [List.set_cons_succ, tpV_cons, tpV_cons, show (k + 1) * 3 + 2 = k * 3 + 2 + 1 + 1 + 1 by omega, List.set_cons_succ, List.set_cons_succ, List.set_cons_succ, tpV_set2 v (T := T) (k := k) (by simpa using h)]
/-- Intervals as three numbers each. -/
def ivT (L : List Iv) : List T3 := L.map fun x => (x.r, x.s, x.e)
theorem ivT_at {L : List Iv} {k : Nat} (h : k < L.length) : (ivT L)[k]? = some ((ivA L k).r, (ivA L k).s, (ivA L k).e) := by
  unfold ivT ivA
  rw [List.getElem?_map, List.getElem?_eq_getElem h]
  rfl
/-- Places: what was given, then noughts. -/
def plT (L : List Iv) (o : List (Option Nat × Option Nat)) : List T3 := (List.range L.length).map fun k => match o[k]? with
  | some z => ((ivA L k).r, oI z.1, oI z.2)
  | none => (0, 0, 0)
theorem plT_len (L : List Iv) (o : List (Option Nat × Option Nat)) : (plT L o).length = L.length := by simp [plT]
theorem plT_at {L : List Iv} {o : List (Option Nat × Option Nat)} {k : Nat} (h : k < L.length) : (plT L o)[k]? = some (match o[k]? with | some z => ((ivA L k).r, oI z.1, oI z.2) | none => (0, 0, 0)) := by
  unfold plT
  rw [List.getElem?_map, List.getElem?_range h]
  rfl
theorem plT_nil (L : List Iv) : plT L [] = List.replicate L.length (0, 0, 0) := by
  unfold plT
  apply List.ext_getElem?
  intro k
  by_cases h : k < L.length
  · simp [h]
  · rw [List.getElem?_eq_none (by simp; omega), List.getElem?_eq_none (by simp; omega)]
theorem plT_snoc {L : List Iv} {o : List (Option Nat × Option Nat)} (z : Option Nat × Option Nat) (h : o.length < L.length) : plT L (o ++ [z]) = (plT L o).set o.length ((ivA L o.length).r, oI z.1, oI z.2) := by
  apply List.ext_getElem?
  intro k
  by_cases hk : k < L.length
  · rw [plT_at hk]
    by_cases he : k = o.length
    · subst he
      rw [List.getElem?_set_self (by rw [plT_len]; exact hk), List.getElem?_append_right (Nat.le_refl _), Nat.sub_self]
      rfl
    · rw [List.getElem?_set_ne (fun e => he e.symm), plT_at hk]
      by_cases hl : k < o.length
      · rw [List.getElem?_append_left hl]
      · rw [List.getElem?_eq_none (l := o ++ [z]) (by simp; omega), List.getElem?_eq_none (l := o) (by omega)]
  · rw [List.getElem?_eq_none (by rw [plT_len]; omega), List.getElem?_eq_none (by rw [List.length_set, plT_len]; omega)]
theorem plT_set {L : List Iv} {o : List (Option Nat × Option Nat)} {w : Nat} (z : Option Nat × Option Nat) (h : w < o.length) (hl : o.length ≤ L.length) : plT L (o.set w z) = (plT L o).set w ((ivA L w).r, oI z.1, oI z.2) := by
  apply List.ext_getElem?
  intro k
  by_cases hk : k < L.length
  · rw [plT_at hk]
    by_cases he : k = w
    · subst he
      rw [List.getElem?_set_self h, List.getElem?_set_self (by rw [plT_len]; exact hk)]
    · rw [List.getElem?_set_ne (fun e => he e.symm), List.getElem?_set_ne (fun e => he e.symm), plT_at hk]
  · rw [List.getElem?_eq_none (by rw [plT_len]; omega), List.getElem?_eq_none (by rw [List.length_set, plT_len]; omega)]

/-- A world in which two rows of the call's own lie, one of places, one of who holds each register; O and H are their blocks. -/
structure CoS (w wr : World) (O H : Nat) (tp : TypeId) (T : List T3) (h : List (Option Nat)) : Prop where
  X : Ext w wr
  gO : w.heap.size ≤ O
  gH : w.heap.size ≤ H
  ne : O ≠ H
  rO : Row wr O tp (tpV T)
  rH : Row wr H 3 (os h)
theorem CoS.ext {w wr wq : World} {O H : Nat} {tp : TypeId} {T : List T3} {h : List (Option Nat)} (x : CoS w wr O H tp T h) (e : Ext wr wq) : CoS w wq O H tp T h :=
  ⟨x.X.trans e, x.gO, x.gH, x.ne, x.rO.on e, x.rH.on e⟩
theorem CoS.setH {w wr : World} {O H : Nat} {tp : TypeId} {T : List T3} {h : List (Option Nat)} (x : CoS w wr O H tp T h) (k : Nat) (v : Option Nat) : CoS w (wr.setCell ⟨H, k, none⟩ (.int .i64 (oI v))) O H tp T (h.set k v) :=
  ⟨x.X.set (p := ⟨H, k, none⟩) x.gH _, x.gO, x.gH, x.ne, x.rO.other x.ne _ _, by rw [← os_set]; exact x.rH.set k _⟩
theorem CoS.set1 {w wr : World} {O H : Nat} {tp : TypeId} {T : List T3} {h : List (Option Nat)} (x : CoS w wr O H tp T h) {k : Nat} {t : T3} (ht : T[k]? = some t) (v : Int) : CoS w (wr.setCell ⟨O, k * 3 + 1, none⟩ (.int .i64 v)) O H tp (T.set k (t.1, v, t.2.2)) h :=
  ⟨x.X.set (p := ⟨O, k * 3 + 1, none⟩) x.gO _, x.gO, x.gH, x.ne, by rw [← tpV_set1 v ht]; exact x.rO.set _ _, x.rH.other (fun e => x.ne e.symm) _ _⟩
theorem CoS.set2 {w wr : World} {O H : Nat} {tp : TypeId} {T : List T3} {h : List (Option Nat)} (x : CoS w wr O H tp T h) {k : Nat} {t : T3} (ht : T[k]? = some t) (v : Int) : CoS w (wr.setCell ⟨O, k * 3 + 2, none⟩ (.int .i64 v)) O H tp (T.set k (t.1, t.2.1, v)) h :=
  ⟨x.X.set (p := ⟨O, k * 3 + 2, none⟩) x.gO _, x.gO, x.gH, x.ne, by rw [← tpV_set2 v ht]; exact x.rO.set _ _, x.rH.other (fun e => x.ne e.symm) _ _⟩
theorem CoS.set0 {w wr : World} {O H : Nat} {tp : TypeId} {T : List T3} {h : List (Option Nat)} (x : CoS w wr O H tp T h) {k : Nat} {t : T3} (ht : T[k]? = some t) (v : Int) : CoS w (wr.setCell ⟨O, k * 3, none⟩ (.int .i64 v)) O H tp (T.set k (v, t.2.1, t.2.2)) h :=
  ⟨x.X.set (p := ⟨O, k * 3, none⟩) x.gO _, x.gO, x.gH, x.ne, by rw [← tpV_set0 v ht]; exact x.rO.set _ _, x.rH.other (fun e => x.ne e.symm) _ _⟩
/-- All three of one. -/
theorem CoS.set3 {w wr : World} {O H : Nat} {tp : TypeId} {T : List T3} {h : List (Option Nat)} (x : CoS w wr O H tp T h) {k : Nat} (hk : k < T.length) (a b c : Int) : CoS w (((wr.setCell ⟨O, k * 3, none⟩ (.int .i64 a)).setCell ⟨O, k * 3 + 1, none⟩ (.int .i64 b)).setCell ⟨O, k * 3 + 2, none⟩ (.int .i64 c)) O H tp (T.set k (a, b, c)) h := by
  have x0 := x.set0 (List.getElem?_eq_getElem hk) a
  have h1 : (T.set k (a, T[k].2.1, T[k].2.2))[k]? = some (a, T[k].2.1, T[k].2.2) := by rw [List.getElem?_set_self hk]
  have x1 := x0.set1 h1 b
  rw [List.set_set] at x1
  have h2 : (T.set k (a, b, T[k].2.2))[k]? = some (a, b, T[k].2.2) := by rw [List.getElem?_set_self hk]
  have x2 := x1.set2 h2 c
  rw [List.set_set] at x2
  exact x2
theorem made3 (n : Nat) : madeCells #[Value.int .i64 0, Value.int .i64 0, Value.int .i64 0] (n * 3) = (tpV (List.replicate n (0, 0, 0))).toArray := by
  apply Array.ext
  · simp [madeCells, tpV_len]
  · intro i h1 h2
    have hl : i < n * 3 := by simpa [madeCells] using h1
    have hk : (List.replicate n ((0, 0, 0) : T3))[i / 3]? = some (0, 0, 0) := by rw [List.getElem?_replicate, if_pos (by omega)]
    obtain ⟨a0, a1, a2⟩ := tpV_at hk
    have hv : (tpV (List.replicate n (0, 0, 0)))[i]? = some (.int .i64 0) := by
      rcases (by omega : i = i / 3 * 3 ∨ i = i / 3 * 3 + 1 ∨ i = i / 3 * 3 + 2) with h | h | h
      · rw [← h] at a0; exact a0
      · rw [← h] at a1; exact a1
      · rw [← h] at a2; exact a2
    have hm : (madeCells #[Value.int .i64 0, Value.int .i64 0, Value.int .i64 0] (n * 3))[i]? = some (.int .i64 0) := by
      have h3 : i % 3 < 3 := Nat.mod_lt _ (by decide)
      unfold madeCells
      simp only [Array.getElem?_map]
      rw [Array.getElem?_range, if_pos hl] <;> try exact hl
      simp only [Option.map_some]
      rcases (by omega : i % 3 = 0 ∨ i % 3 = 1 ∨ i % 3 = 2) with h | h | h <;> simp [h]
    have e1 := Array.getElem?_eq_getElem h1
    rw [hm] at e1
    have e2 : ((tpV (List.replicate n (0, 0, 0))).toArray)[i]? = some (.int .i64 0) := by simpa using hv
    rw [Array.getElem?_eq_getElem h2] at e2
    exact (Option.some.inj e1).symm.trans (Option.some.inj e2).symm

end Go.Proofs.Ytjopfpchbakggaa
