/- A walk that is made; the walk through all points that are come to. -/
import Derived.Test.YtdnhekgbfhlhoaaGrFr
set_option linter.unusedSimpArgs false
set_option linter.unusedVariables false
set_option maxRecDepth 10000
namespace Go.Proofs.Ytdnhekgbfhlhoaa
open Go.RowKit

/-- The rows of a walk, its block not made yet. -/
structure NwI (w0 w : World) (S N Y n : Nat) : Prop where
  ext : Ext w0 w
  bs : w0.heap.size ≤ S ∧ w0.heap.size ≤ N ∧ w0.heap.size ≤ Y
  nd : S ≠ N ∧ S ≠ Y ∧ N ≠ Y
  rS : Row w S 4 (bsV (List.replicate n false))
  rN : Row w N 3 (ns (List.replicate n 0))
  rY : Row w Y 3 (os (List.replicate n none))

theorem NwI.done {w0 w : World} {S N Y n : Nat} (h : NwI w0 w S N Y n) (ga : Option Addr) (gc : Nat) : WlS w0 (w.alloc (.cells #[.slice ga n gc, .slice (some ⟨S, 0, none⟩) n n, .slice (some ⟨N, 0, none⟩) n n, .slice (some ⟨Y, 0, none⟩) n n, .slice none 0 0, .slice none 0 0] 90)) w.heap.size S N Y ga gc n (gNew n) none 0 none 0 := by
  have hS := k_lt h.rS
  have hN := k_lt h.rN
  have hY := k_lt h.rY
  have e := Ext.alloc w (.cells #[.slice ga n gc, .slice (some ⟨S, 0, none⟩) n n, .slice (some ⟨N, 0, none⟩) n n, .slice (some ⟨Y, 0, none⟩) n n, .slice none 0 0, .slice none 0 0] 90)
  exact ⟨h.ext.trans e, ⟨h.ext.size, h.bs.1, h.bs.2.1, h.bs.2.2⟩, ⟨by omega, by omega, by omega, h.nd.1, h.nd.2.1, h.nd.2.2⟩, Row.new _ _ _, h.rS.on e, h.rN.on e, h.rY.on e, ⟨by simp [gNew], by simp [gNew], by simp [gNew]⟩, World.ownsRow_nil _ _ _ _, World.ownsRow_nil _ _ _ _, fun k e => (by cases e), fun k e => (by cases e), fun k e => (by cases e)⟩

/-- What newWalk answers. -/
def NewE (w : World) (ga : Option Addr) (gc n : Nat) (e : Ending) (w' : World) : Prop := ∃ B S N Y, e = .returned (.pointer (some ⟨B, 0, none⟩)) ∧ WlS w w' B S N Y ga gc n (gNew n) none 0 none 0

def nwB (n : Nat) : Obj := .cells (bsV (List.replicate n false)).toArray 4
def nwN (n : Nat) : Obj := .cells (ns (List.replicate n 0)).toArray 3
theorem sz1 (w : World) (o : Obj) : (w.alloc o).heap.size = w.heap.size + 1 := Array.size_push ..
theorem rowB (w : World) (n : Nat) : Row (w.alloc (nwB n)) w.heap.size 4 (bsV (List.replicate n false)) := Row.new _ _ _
theorem rowN (w : World) (n : Nat) : Row (w.alloc (nwN n)) w.heap.size 3 (ns (List.replicate n 0)) := Row.new _ _ _
theorem nw1 {w w1 : World} {b n : Nat} (E : Ext ((w.alloc (nwB n)).alloc (nwN n)).drew w1) (hb : ((w.alloc (nwB n)).alloc (nwN n)).drew.heap.size ≤ b) (R : Row w1 b 3 (os (List.replicate n none))) : NwI w w1 w.heap.size (w.heap.size + 1) b n := by
  have hb : ((w.alloc (nwB n)).alloc (nwN n)).heap.size ≤ b := hb
  have E : Ext ((w.alloc (nwB n)).alloc (nwN n)) w1 := (Ext.drew (Ext.refl _)).trans E
  rw [sz1, sz1] at hb
  have r2 := (rowN (w.alloc (nwB n)) n).on E
  rw [sz1] at r2
  exact ⟨((Ext.alloc _ _).trans (Ext.alloc _ _)).trans E, ⟨Nat.le_refl _, by omega, by omega⟩, ⟨by omega, by omega, by omega⟩, ((rowB w n).on (Ext.alloc _ _)).on E, r2, R⟩
theorem nw3 {w w1 : World} {b n : Nat} (E : Ext ((w.alloc (nwN n)).alloc (nwB n)).drew w1) (hb : ((w.alloc (nwN n)).alloc (nwB n)).drew.heap.size ≤ b) (R : Row w1 b 3 (os (List.replicate n none))) : NwI w w1 (w.heap.size + 1) w.heap.size b n := by
  have hb : ((w.alloc (nwN n)).alloc (nwB n)).heap.size ≤ b := hb
  have E : Ext ((w.alloc (nwN n)).alloc (nwB n)) w1 := (Ext.drew (Ext.refl _)).trans E
  rw [sz1, sz1] at hb
  have r2 := (rowB (w.alloc (nwN n)) n).on E
  rw [sz1] at r2
  exact ⟨((Ext.alloc _ _).trans (Ext.alloc _ _)).trans E, ⟨by omega, Nat.le_refl _, by omega⟩, ⟨by omega, by omega, by omega⟩, r2, ((rowN w n).on (Ext.alloc _ _)).on E, R⟩
theorem nw2 {w w1 : World} {b n : Nat} (E : Ext (w.alloc (nwB n)).drew w1) (hb : (w.alloc (nwB n)).drew.heap.size ≤ b) (R : Row w1 b 3 (os (List.replicate n none))) : NwI w (w1.alloc (nwN n)) w.heap.size w1.heap.size b n := by
  have hb : (w.alloc (nwB n)).heap.size ≤ b := hb
  have E : Ext (w.alloc (nwB n)) w1 := (Ext.drew (Ext.refl _)).trans E
  have h1 := E.size
  have h2 := k_lt R
  rw [sz1] at hb h1
  exact ⟨((Ext.alloc _ _).trans E).trans (Ext.alloc _ _), ⟨Nat.le_refl _, by omega, by omega⟩, ⟨by omega, by omega, by omega⟩, ((rowB w n).on E).on (Ext.alloc _ _), rowN _ n, R.on (Ext.alloc _ _)⟩
theorem nw4 {w w1 : World} {b n : Nat} (E : Ext (w.alloc (nwN n)).drew w1) (hb : (w.alloc (nwN n)).drew.heap.size ≤ b) (R : Row w1 b 3 (os (List.replicate n none))) : NwI w (w1.alloc (nwB n)) w1.heap.size w.heap.size b n := by
  have hb : (w.alloc (nwN n)).heap.size ≤ b := hb
  have E : Ext (w.alloc (nwN n)) w1 := (Ext.drew (Ext.refl _)).trans E
  have h1 := E.size
  have h2 := k_lt R
  rw [sz1] at hb h1
  exact ⟨((Ext.alloc _ _).trans E).trans (Ext.alloc _ _), ⟨by omega, Nat.le_refl _, by omega⟩, ⟨by omega, by omega, by omega⟩, rowB _ n, ((rowN w n).on E).on (Ext.alloc _ _), R.on (Ext.alloc _ _)⟩
theorem nw5 {w w1 : World} {b n : Nat} (E : Ext w.drew w1) (hb : w.drew.heap.size ≤ b) (R : Row w1 b 3 (os (List.replicate n none))) : NwI w ((w1.alloc (nwB n)).alloc (nwN n)) w1.heap.size (w1.heap.size + 1) b n := by
  have hb : w.heap.size ≤ b := hb
  have E : Ext w w1 := (Ext.drew (Ext.refl _)).trans E
  have h1 := E.size
  have h2 := k_lt R
  have r2 := rowN (w1.alloc (nwB n)) n
  rw [sz1] at r2
  exact ⟨(E.trans (Ext.alloc _ _)).trans (Ext.alloc _ _), ⟨by omega, by omega, by omega⟩, ⟨by omega, by omega, by omega⟩, (rowB _ n).on (Ext.alloc _ _), r2, (R.on (Ext.alloc _ _)).on (Ext.alloc _ _)⟩
theorem nw6 {w w1 : World} {b n : Nat} (E : Ext w.drew w1) (hb : w.drew.heap.size ≤ b) (R : Row w1 b 3 (os (List.replicate n none))) : NwI w ((w1.alloc (nwN n)).alloc (nwB n)) (w1.heap.size + 1) w1.heap.size b n := by
  have hb : w.heap.size ≤ b := hb
  have E : Ext w w1 := (Ext.drew (Ext.refl _)).trans E
  have h1 := E.size
  have h2 := k_lt R
  have r2 := rowB (w1.alloc (nwN n)) n
  rw [sz1] at r2
  exact ⟨(E.trans (Ext.alloc _ _)).trans (Ext.alloc _ _), ⟨by omega, by omega, by omega⟩, ⟨by omega, by omega, by omega⟩, r2, (rowN _ n).on (Ext.alloc _ _), (R.on (Ext.alloc _ _)).on (Ext.alloc _ _)⟩

set_option maxHeartbeats 2000000 in
theorem newWalk_w (ga : Option Addr) (n gc : Nat) (w : World) (hn : n ≤ 1000000) :
    Calls Try.prog 59 #[.slice ga n gc] w (NewE w ga gc n) := by
  have H := hide (fun W => noneOf_w ga n gc W hn)
  have m1 : ∀ W : World, (Instr.makeSlice 60 (.int .i64 (n : Int)) (.int .i64 (n : Int))).run Try.prog W = .ok (.slice (some ⟨W.heap.size, 0, none⟩) n n) (W.alloc (nwB n)) := fun W => make_bools n hn W
  have m2 : ∀ W : World, (Instr.makeSlice 30 (.int .i64 (n : Int)) (.int .i64 (n : Int))).run Try.prog W = .ok (.slice (some ⟨W.heap.size, 0, none⟩) n n) (W.alloc (nwN n)) := fun W => make_nats n hn W
  go_enter Try.func59, Try.ntmps59
  go_wp2_with fail
  go_region_with (go_at_call 64; refine Calls.mono (unhide H _) ?_; rintro e w1 ⟨b, rfl, hb, hR, hE⟩; have B1 := hide hb; have R1 := hide hR; have E1 := hide hE; clear hR hE hb)
  · go_wp2_with fail
    go_ret
    exact ⟨_, _, _, _, rfl, (nw1 (unhide E1) (unhide B1) (unhide R1)).done ga gc⟩
  · go_wp2_with fail
    go_ret
    exact ⟨_, _, _, _, rfl, by have := (nw2 (unhide E1) (unhide B1) (unhide R1)).done ga gc; rw [sz1] at this; exact this⟩
  · go_wp2_with fail
    go_ret
    exact ⟨_, _, _, _, rfl, (nw3 (unhide E1) (unhide B1) (unhide R1)).done ga gc⟩
  · go_wp2_with fail
    go_ret
    exact ⟨_, _, _, _, rfl, by have := (nw4 (unhide E1) (unhide B1) (unhide R1)).done ga gc; rw [sz1] at this; exact this⟩
  · go_wp2_with fail
    go_ret
    exact ⟨_, _, _, _, rfl, by have := (nw5 (unhide E1) (unhide B1) (unhide R1)).done ga gc; rw [sz1, sz1] at this; exact this⟩
  · go_wp2_with fail
    go_ret
    exact ⟨_, _, _, _, rfl, by have := (nw6 (unhide E1) (unhide B1) (unhide R1)).done ga gc; rw [sz1, sz1] at this; exact this⟩

/-- What walkOf answers. -/
def WalkE (w : World) (ga : Option Addr) (gc n : Nat) (st : GW) (e : Ending) (w' : World) : Prop := ∃ B S N Y ma mc la lc, e = .returned (.pointer (some ⟨B, 0, none⟩)) ∧ WlS w w' B S N Y ga gc n st ma mc la lc

set_option maxHeartbeats 2000000 in
theorem walkOf_w (ga : Option Addr) (gc : Nat) (g : List (List Int)) (w : World) (K : Nat) (F : GW) (hg : RepG w (In w) ga g) (hf : Few g) (hK : K ≤ 7000000) (hF : gWalk g K = some F) :
    Calls Try.prog 46 #[.slice ga g.length gc] w (WalkE w ga gc g.length F) := by
  have HN := hide (newWalk_w ga g.length gc w hf.1)
  by_cases h0 : g.length = 0
  · unfold gWalk at hF
    rw [if_pos h0] at hF
    injection hF with hF
    subst hF
    clear hg hf
    rw [h0] at HN ⊢
    go_enter Try.func46, Try.ntmps46
    go_wp2_with (go_at_call 59; refine Calls.mono (unhide HN) ?_; rintro e w1 ⟨B, S, N, Y, rfl, hS⟩; have S1 := hide hS; clear hS)
    go_ret
    exact ⟨B, S, N, Y, none, 0, none, 0, rfl, unhide S1⟩
  · unfold gWalk at hF
    rw [if_neg h0] at hF
    have HFr := hide (fun (W : World) (B S N Y : Nat) (hS : WlS w W B S N Y ga gc g.length (gNew g.length) none 0 none 0) => from_w w W B S N Y ga gc g (gNew g.length) none 0 none 0 0 K K F hg hf hS (by omega) ⟨fun p x l hx _ => by
      have : x = 0 := by
        simp only [gNew] at hx
        have := List.mem_of_getElem? hx
        exact List.eq_of_mem_replicate this
      omega, by simp [gNew]; omega, by simp [gNew]⟩ (by omega) hF)
    have hpos : (0 : Int) < (g.length : Int) := by omega
    clear hg hf hF
    go_enter Try.func46, Try.ntmps46
    go_wp2_with (first
      | (go_at_call 59; refine Calls.mono (unhide HN) ?_; rintro e w1 ⟨B, S, N, Y, rfl, hS⟩; have S1 := hide hS; clear hS)
      | (go_at_call 60; refine Calls.mono (unhide HFr w1 B S N Y (unhide S1)) ?_; rintro e w2 ⟨rfl, ma, mc, la, lc, hS⟩; have S2 := hide hS; clear hS))
    go_ret
    exact ⟨B, S, N, Y, ma, mc, la, lc, rfl, unhide S2⟩

end Go.Proofs.Ytdnhekgbfhlhoaa
