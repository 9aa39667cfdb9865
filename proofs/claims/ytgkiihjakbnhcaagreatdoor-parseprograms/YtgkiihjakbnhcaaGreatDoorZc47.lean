/- The writer of parse: functions. · Two programs that are the same. -/
import Derived.Test.YtgkiihjakbnhcaaGreatDoorZc46
import Derived.Test.YtgkiihjakbnhcaaGreatDoorZc45
set_option linter.unusedSimpArgs false
set_option linter.unusedVariables false
set_option maxRecDepth 10000

namespace Go.Proofs.YtgkiihjakbnhcaaGreatDoor
open Go.RowKit

/-- The cells of one function of a row. -/
theorem rowF_at {w : World} {F : Nat → Prop} : ∀ {ps : List PFn} {xs : List Value}, RowF w F ps xs → ∀ (i : Nat) (p : PFn), ps[i]? = some p →
    ∃ pa pc a cap, (∀ (r : Nat) u, (fnC p pa pc a cap)[r]? = some u → xs[i * 7 + r]? = some u) ∧ p.ps.length ≤ pc ∧ RepS w F p.ps pa ∧ p.bd.l.length ≤ cap ∧ RepNL w F p.bd.l a := by
  intro ps
  induction ps with
  | nil => intro xs _ i p h; simp at h
  | cons q ps ih =>
    intro xs hx i p hp
    obtain ⟨pa, pc, a, cap, rest, rfl, h1, h2, h3, h4, hr⟩ := hx
    cases i with
    | zero =>
      simp at hp
      subst hp
      refine ⟨pa, pc, a, cap, fun r u hu => ?_, h1, h2, h3, h4⟩
      rw [Nat.zero_mul, Nat.zero_add]
      rw [List.getElem?_append_left (List.getElem?_eq_some_iff.1 hu).1]
      exact hu
    | succ j =>
      simp at hp
      obtain ⟨pa', pc', a', cap', hc, r⟩ := ih hr j p hp
      refine ⟨pa', pc', a', cap', fun r u hu => ?_, r⟩
      rw [List.getElem?_append_right (by simp; omega)]
      rw [← hc r u hu]
      congr 1
      simp
      omega

end Go.Proofs.YtgkiihjakbnhcaaGreatDoor

namespace Go.Proofs.YtgkiihjakbnhcaaGreatDoor
open Go.RowKit

theorem RepS.at {w : World} {F : Nat → Prop} {ps : List ByteArray} {a : Option Addr} (h : RepS w F ps a) (i : Nat) (s : ByteArray) (hs : ps[i]? = some s) : ∃ b off, a = some ⟨b, off, none⟩ ∧ F b ∧ w.cell? ⟨b, off + i, none⟩ = some (.string s) := by
  rcases h with rfl | ⟨b, off, rfl, hb, hc⟩
  · simp at hs
  · exact ⟨b, off, rfl, hb, hc i _ (by rw [List.getElem?_map, hs]; rfl)⟩
theorem RepS.inw {w w' : World} {l : List ByteArray} {a : Option Addr} (h : RepS w (InW w) l a) (k : Ext w w') : RepS w' (InW w') l a := RepS.to (fun b hb => ⟨Nat.lt_of_lt_of_le hb k.size, k.block b hb⟩) h
theorem RepFL.inw {w w' : World} {l : List PFn} {a : Option Addr} (h : RepFL w (InW w) l a) (k : Ext w w') : RepFL w' (InW w') l a := RepFL.to (fun b hb => ⟨Nat.lt_of_lt_of_le hb k.size, k.block b hb⟩) h
theorem RepFL.at {w : World} {F : Nat → Prop} {ps : List PFn} {a : Option Addr} (h : RepFL w F ps a) (i : Nat) (p : PFn) (hp : ps[i]? = some p) :
    ∃ b off pa pc qa qc, a = some ⟨b, off, none⟩ ∧ F b ∧ (∀ (r : Nat) u, (fnC p pa pc qa qc)[r]? = some u → w.cell? ⟨b, off + i * 7 + r, none⟩ = some u) ∧ p.ps.length ≤ pc ∧ RepS w F p.ps pa ∧ p.bd.l.length ≤ qc ∧ RepNL w F p.bd.l qa := by
  rcases h with rfl | ⟨b, off, xs, rfl, hb, hrow, hc⟩
  · simp at hp
  · obtain ⟨pa, pc, qa, qc, hcs, h1, hS, h3, hL⟩ := rowF_at hrow i p hp
    exact ⟨b, off, pa, pc, qa, qc, rfl, hb, fun r u hu => by rw [Nat.add_assoc]; exact hc _ _ (hcs r u hu), h1, hS, h3, hL⟩

/-- A function whose lists are bounded. -/
def bdF (f : Nat) (q : PFn) : Bool := decide (q.ps.length ≤ 100000000) && bdN f q.bd

end Go.Proofs.YtgkiihjakbnhcaaGreatDoor
