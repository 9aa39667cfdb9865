/- Two trees that are the same. -/
import Derived.Test.YtbcflcnkhhkogaaGreatDoorZb38
set_option linter.unusedSimpArgs false
set_option linter.unusedVariables false
set_option maxRecDepth 10000

namespace Go.Proofs.YtbcflcnkhhkogaaGreatDoor
open Go.RowKit

theorem PN.byList {M : PN → Prop} (h : ∀ k o s n l, (∀ x ∈ l, M x) → M (.mk k o s n l)) : ∀ p, M p := by
  have go : ∀ (m : Nat) (p : PN), SizeOf.sizeOf p ≤ m → M p := by
    intro m
    induction m with
    | zero =>
      intro p hp
      cases p with
      | mk k o s n l => simp at hp
    | succ m ih =>
      intro p hp
      cases p with
      | mk k o s n l =>
        refine h k o s n l fun x hx => ih x ?_
        have := List.sizeOf_lt_of_mem hx
        simp at hp
        omega
  exact fun p => go _ p (Nat.le_refl _)

def InW (w : World) : Nat → Prop := fun b => b < w.heap.size
theorem RepN.inw {w w' : World} {p : PN} {v : Value} (h : RepN w (InW w) p v) (k : Ext w w') : RepN w' (InW w') p v := RepN.to (fun b hb => ⟨Nat.lt_of_lt_of_le hb k.size, k.block b hb⟩) p v h
theorem RepNL.inw {w w' : World} {l : List PN} {a : Option Addr} (h : RepNL w (InW w) l a) (k : Ext w w') : RepNL w' (InW w') l a := RepNL.to (fun b hb => ⟨Nat.lt_of_lt_of_le hb k.size, k.block b hb⟩) l a h

/-- A tree is found the same as itself, wherever the two lie. -/
def SameOf (p : PN) : Prop := ∀ (va vb : Value) (w : World), RepN w (InW w) p va → RepN w (InW w) p vb → Calls Tryz.prog 33 #[va, vb] w fun e w' => e = .returned (.bool true) ∧ Ext w w'

set_option maxHeartbeats 1000000 in
theorem eqf_w (l : List PN) (hl : ∀ p ∈ l, SameOf p) (a b : Option Addr) (ca cb : Nat) (w : World) (h1 : RepNL w (InW w) l a) (h2 : RepNL w (InW w) l b) (hn : l.length ≤ 100000000) :
    Calls Tryz.prog 70 #[.slice a l.length ca, .slice b l.length cb, .func (.func 33) #[] #[]] w fun e w' => e = .returned (.bool true) ∧ Ext w w' := by
  have HA := hide h1
  have HB := hide h2
  have HS := hide hl
  clear h1 h2 hl
  generalize hN : l.length = n at *
  go_enter Tryz.func70, Tryz.ntmps70
  go_wp2_with fail
  go_loopw [17] (fun t wr => ∃ (j : Nat), t = .int .i64 j ∧ j ≤ n ∧ Hd (Ext w wr)) (fun t _ => n - (intOf t).toNat)
  case atStart => exact ⟨0, rfl, by omega, Ext.refl w⟩
  case round =>
    obtain ⟨j, rfl, hj, hX⟩ := hrel
    by_cases hlt : j < n
    · obtain ⟨p, hp⟩ : ∃ p, l[j]? = some p := ⟨_, List.getElem?_eq_getElem (by omega)⟩
      obtain ⟨b1, o1, c0, c1, c2, c3, c4, rfl, f1, r1, e0, e1, e2, e3, e4⟩ := repNL_at ((unhide HA).inw (unhide hX)) j p hp
      obtain ⟨b2, o2, d0, d1, d2, d3, d4, rfl, f2, r2, g0, g1, g2, g3, g4⟩ := repNL_at ((unhide HB).inw (unhide hX)) j p hp
      obtain ⟨pk, po, ps, pn, pl⟩ := p
      have r1' := r1
      have r2' := r2
      rw [RepN] at r1' r2'
      obtain ⟨a1, cap1, hv1, _, _⟩ := r1'
      obtain ⟨a2, cap2, hv2, _, _⟩ := r2'
      injection hv1 with hv1
      injection hv2 with hv2
      simp at hv1 hv2
      obtain ⟨rfl, rfl, rfl, rfl, rfl⟩ := hv1
      obtain ⟨rfl, rfl, rfl, rfl, rfl⟩ := hv2
      have HP := hide (fun (W : World) (k : Ext wr W) => unhide HS ⟨pk, po, ps, pn, pl⟩ (List.mem_of_getElem? hp) _ _ W (r1.inw k) (r2.inw k))
      have E0 := fun ob => (Ext.alloc wr ob).cell e0
      have E1 := fun ob => (Ext.alloc wr ob).cell e1
      have E2 := fun ob => (Ext.alloc wr ob).cell e2
      have E3 := fun ob => (Ext.alloc wr ob).cell e3
      have E4 := fun ob => (Ext.alloc wr ob).cell e4
      have G0 := fun ob => (Ext.alloc wr ob).cell g0
      have G1 := fun ob => (Ext.alloc wr ob).cell g1
      have G2 := fun ob => (Ext.alloc wr ob).cell g2
      have G3 := fun ob => (Ext.alloc wr ob).cell g3
      have G4 := fun ob => (Ext.alloc wr ob).cell g4
      have HX2 : Hd (∀ o1 o2 : Obj, Ext wr ((wr.alloc o1).alloc o2)) := fun o1 o2 => (Ext.alloc _ _).trans (Ext.alloc _ _)
      clear r1 r2 f1 f2 hp
      go_wp2_with (go_at_call 33; refine Calls.mono (unhide HP _ (unhide HX2 _ _)) ?_; rintro e w2 ⟨rfl, hw⟩; have X2 := hide (((unhide hX).trans (unhide HX2 _ _)).trans hw); clear hw)
      go_roundw
      case rel => exact ⟨j + 1, by go_num, by omega, X2⟩
      case measure => simp [intOf]; omega
    · obtain rfl : j = n := by omega
      go_wp2_with fail
      go_ret
      exact ⟨rfl, unhide hX⟩

/-- A tree whose lists are bounded. -/
def bdN : Nat → PN → Bool
  | 0, _ => false
  | f + 1, p => decide (p.l.length ≤ 100000000) && decide (p.s.size ≤ 100000000) && p.l.all (bdN f)

set_option maxHeartbeats 1000000 in
theorem same_w : ∀ (f : Nat) (p : PN), bdN f p = true → SameOf p := by
  intro f
  induction f with
  | zero => intro p h; cases h
  | succ f ih =>
    intro p h va vb w h1 h2
    obtain ⟨k, o, s, n, l⟩ := p
    rw [bdN] at h
    simp only [Bool.and_eq_true, decide_eq_true_eq, List.all_eq_true] at h
    obtain ⟨⟨hlen, hs⟩, hall⟩ := h
    rw [RepN] at h1 h2
    obtain ⟨a, ca, rfl, _, hA⟩ := h1
    obtain ⟨b, cb, rfl, _, hB⟩ := h2
    have HQ := hide (fun (W : World) (x : Ext w W) => eqf_w l (fun p hp => ih p (hall p hp)) a b ca cb W (hA.inw x) (hB.inw x) hlen)
    have HX2 : Hd (∀ o1 o2 : Obj, Ext w ((w.alloc o1).alloc o2)) := fun o1 o2 => (Ext.alloc _ _).trans (Ext.alloc _ _)
    clear hA hB ih hall
    generalize l.length = m at *
    go_enter Tryz.func33, Tryz.ntmps33
    go_wp2_with (go_at_call 70; refine Calls.mono (unhide HQ _ (unhide HX2 _ _)) ?_; rintro e w2 ⟨rfl, hw⟩; have X2 := hide ((unhide HX2 _ _).trans hw); clear hw)
    go_ret
    exact ⟨rfl, unhide X2⟩

end Go.Proofs.YtbcflcnkhhkogaaGreatDoor
