/- The operator that makes a node; how many operands it takes. -/
import Derived.Test.YtbcflcnkhhkogaaGreatDoorZb33
set_option linter.unusedSimpArgs false
set_option linter.unusedVariables false
set_option maxRecDepth 10000

namespace Go.Proofs.YtbcflcnkhhkogaaGreatDoor
open Go.RowKit

def ndHit (kd op : Int) (x : Opr) : Bool := (x.k == kd) && (x.o == op)
def ofNd (kd op : Int) : Option Opr := oprs.find? (ndHit kd op)
theorem find_stepN {kd op : Int} {j : Nat} {x : Opr} (h : oprs[j]? = some x) (hn : ∀ y ∈ oprs.take j, ndHit kd op y = false) : if ndHit kd op x then ofNd kd op = some x else ∀ y ∈ oprs.take (j + 1), ndHit kd op y = false := by
  obtain ⟨hj, hx0⟩ := List.getElem?_eq_some_iff.1 h
  have hd : oprs = oprs.take j ++ x :: oprs.drop (j + 1) := by
    rw [← hx0, ← List.drop_eq_getElem_cons hj, List.take_append_drop]
  split
  · rename_i hx
    unfold ofNd
    rw [hd, List.find?_append, List.find?_eq_none.2 (fun y hy => by rw [hn y hy]; decide)]
    simp [hx]
  · rename_i hx
    intro y hy
    rw [List.take_succ_eq_append_getElem hj, hx0] at hy
    rcases List.mem_append.1 hy with hy | hy
    · exact hn y hy
    · rw [List.mem_singleton.1 hy]; simpa using hx
theorem find_noneN {kd op : Int} (hn : ∀ y ∈ oprs.take 16, ndHit kd op y = false) : ofNd kd op = none :=
  List.find?_eq_none.2 (fun y hy => by rw [hn y hy]; decide)

set_option maxHeartbeats 2000000 in
theorem ofNode_any (kd op : Int) (w : World) (hO : Opx w) :
    Calls Tryz.prog 96 #[.int .i64 kd, .int .i64 op] w fun e w' => e = .returned (.tuple #[oprV ((ofNd kd op).getD oprZ), .bool (ofNd kd op).isSome]) ∧ Ext w w' := by
  have HL := hide (hO.ext (Ext.alloc w (.cells #[.string ⟨#[]⟩, .int .i64 0, .int .i64 0, .int .i64 0] 78)))
  have HX := hide opx_at
  have HZ : Hd ((Tryz.prog.info? 125).map (·.size) = some opTab.length) := by unfold Hd; kernel_rfl
  unfold Opx at HL
  generalize opTab = tab at HL HX HZ
  clear hO
  go_enter Tryz.func96, Tryz.ntmps96
  go_wp2_with (refine wpList_load_mid rfl 125 (.global 0) rfl 0 0 rfl tab _ (unhide HL) Tryz.underlying125 rfl (unhide HZ) ?_)
  go_loopw [9] (fun i wr => ∃ j : Nat, i = .int .i64 j ∧ j ≤ 16 ∧ Hd (∀ y ∈ oprs.take j, ndHit kd op y = false) ∧ Hd (Ext w wr) ∧ Hd (wr.heap[w.heap.size]? = some (oprO oprZ))) (fun i _ => 16 - (intOf i).toNat)
  case atStart => exact ⟨0, rfl, by omega, fun y hy => by simp at hy, Ext.alloc _ _, Go.heap_alloc_new w _⟩
  case round =>
    obtain ⟨j, rfl, hj, hN, hE, hR⟩ := hrel
    by_cases hlt : j < 16
    · obtain ⟨x, hx⟩ : ∃ x, oprs[j]? = some x := ⟨_, List.getElem?_eq_getElem hlt⟩
      have hix := unhide HX j x hx
      have hst := find_stepN hx (unhide hN)
      cases h1 : (x.k == kd)
      · have hh : ndHit kd op x = false := by unfold ndHit; rw [h1]; rfl
        rw [hh, if_neg (by decide)] at hst
        have HN2 := hide hst
        clear hst hh hx
        go_wp2
        go_roundw
        case rel => exact ⟨j + 1, by go_num, by omega, HN2, (unhide hE).trans (Ext.alloc _ _), (Ext.alloc _ _).row (unhide hR)⟩
        case measure => simp [intOf]; omega
      · cases h2 : (x.o == op)
        · have hh : ndHit kd op x = false := by unfold ndHit; rw [h1, h2]; rfl
          rw [hh, if_neg (by decide)] at hst
          have HN2 := hide hst
          clear hst hh hx
          go_wp2
          go_roundw
          case rel => exact ⟨j + 1, by go_num, by omega, HN2, (unhide hE).trans (Ext.alloc _ _), (Ext.alloc _ _).row (unhide hR)⟩
          case measure => simp [intOf]; omega
        · have hh : ndHit kd op x = true := by unfold ndHit; rw [h1, h2]; rfl
          rw [hh, if_pos rfl] at hst
          have HST := hide hst
          have r0 := rowC (unhide hR) 0 rfl
          have r1 := rowC (unhide hR) 1 rfl
          have r2 := rowC (unhide hR) 2 rfl
          have r3 := rowC (unhide hR) 3 rfl
          have rz := rowF (unhide hR)
          have hlt2 : w.heap.size < wr.heap.size := (Array.getElem?_eq_some_iff.1 (unhide hR)).1
          have q0 := setO_past (unhide hR) x 0 _ rfl
          have q1 := setO_past (unhide hR) x 1 _ rfl
          have q2 := setO_past (unhide hR) x 2 _ rfl
          have q3 := setO_past (unhide hR) x 3 _ rfl
          clear hst hh hx
          go_wp2
          exact bodyPost_ret (v := .tuple #[oprV x, .bool true]) (by simp [results, Tryz.results96, go_sem, q0, q1, q2, q3]) rfl ⟨by rw [unhide HST]; rfl, (setO_ext (unhide hE) _ (Nat.le_refl _) _).trans (Ext.alloc _ _)⟩
    · have : j = 16 := by omega
      subst this
      have HST := hide (find_noneN (unhide hN))
      have r0 := rowC (unhide hR) 0 rfl
      have r1 := rowC (unhide hR) 1 rfl
      have r2 := rowC (unhide hR) 2 rfl
      have r3 := rowC (unhide hR) 3 rfl
      have rz := rowF (unhide hR)
      go_wp2
      exact bodyPost_ret (v := .tuple #[oprV oprZ, .bool false]) (by simp [results, Tryz.results96, go_sem, r0, r1, r2, r3, oprZ]) rfl ⟨by rw [unhide HST]; rfl, setO_ext (unhide hE) _ (Nat.le_refl _) oprZ⟩

set_option maxHeartbeats 1000000 in
theorem places_any (o : Opr) (w : World) : Calls Tryz.prog 97 #[oprV o] w fun e w' => e = .returned (.int .i64 (if o.lv = 6 then 1 else 2)) ∧ Ext w w' := by
  obtain ⟨s, lv, k, op⟩ := o
  by_cases h : lv = 6
  · subst h
    rw [if_pos rfl]
    go_enter Tryz.func97, Tryz.ntmps97
    go_wp2_with fail
    go_ret
    exact ⟨rfl, Ext.alloc _ _⟩
  · have hb : (lv == 6) = false := by rw [beq_eq_false_iff_ne]; exact h
    have e : (if (Opr.mk s lv k op).lv = 6 then (1 : Int) else 2) = 2 := if_neg h
    rw [e]
    clear h e
    go_enter Tryz.func97, Tryz.ntmps97
    go_wp2_with fail
    go_ret
    exact ⟨rfl, Ext.alloc _ _⟩

end Go.Proofs.YtbcflcnkhhkogaaGreatDoor
