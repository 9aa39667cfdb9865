/- The nested sums of GenBounds. -/
import Derived.Test.YtlgdjeiendmniaaGreatDoorZg39
set_option maxRecDepth 100000

namespace Go.Proofs.YtlgdjeiendmniaaGreatDoor
open Go.RowKit Go.Maps

def bdP : List UInt8 := [102, 110, 32, 109, 97, 105, 110, 32, 40, 32, 41, 32, 123, 32, 112, 114, 105, 110, 116, 32]
def bdO : List UInt8 := [49, 32, 43, 32, 40, 32]
def bdE : List UInt8 := [32, 41]
def bd2 (d j : Nat) : List UInt8 := rp bdO d ++ [49] ++ rp bdE j
def bdT (d : Nat) : List UInt8 := bdP ++ bd2 d d ++ [32, 59, 32, 125]
def bdOk (d : Nat) : Bool := decide ((begL (bdT d)).ts.length < 400) && (match gSrcL (bdT d) 400 10000 100 5000 with
  | some (e, _, [F], _) => decide (e = 0) && decide (V.kVirt [F] 0 5000 = some ((d : Int) + 1, 0))
  | _ => false)
set_option maxHeartbeats 0 in
theorem bd_0 : (List.range 8).all (fun d => bdOk d) = true := by kernel_rfl
set_option maxHeartbeats 0 in
theorem bd_1 : (List.range 8).all (fun d => bdOk (8 + d)) = true := by kernel_rfl
set_option maxHeartbeats 0 in
theorem bd_2 : (List.range 8).all (fun d => bdOk (16 + d)) = true := by kernel_rfl
theorem bd_all (d : Nat) (h : d < 24) : bdOk d = true := by
  by_cases h1 : d < 8
  · exact List.all_eq_true.1 bd_0 d (List.mem_range.2 h1)
  by_cases h2 : d < 16
  · have := List.all_eq_true.1 bd_1 (d - 8) (List.mem_range.2 (by omega))
    rwa [show 8 + (d - 8) = d by omega] at this
  · have := List.all_eq_true.1 bd_2 (d - 16) (List.mem_range.2 (by omega))
    rwa [show 16 + (d - 16) = d by omega] at this
theorem bd_gives (d : Nat) (h : d < 24) : (begP ⟨(bdT d).toArray⟩).ts.length < 400 ∧ ∃ pl F m, gSrc ⟨(bdT d).toArray⟩ 400 10000 100 5000 = some (0, pl, [F], m) ∧ V.kVirt [F] 0 5000 = some ((d : Int) + 1, 0) := by
  have h := bd_all d h
  unfold bdOk at h
  rw [Bool.and_eq_true] at h
  rw [begP_L, gSrc_L]
  refine ⟨of_decide_eq_true h.1, ?_⟩
  have h2 := h.2
  split at h2
  · rename_i e pl F m hq
    rw [Bool.and_eq_true] at h2
    obtain rfl := of_decide_eq_true h2.1
    exact ⟨pl, F, m, hq, of_decide_eq_true h2.2⟩
  · cases h2
theorem bdT_len (d : Nat) : (bdT d).length = 25 + d * 6 + d * 2 := by
  unfold bdT bd2
  simp only [List.length_append, rp_len]
  simp only [bdP, bdO, bdE, List.length_cons, List.length_nil]
  omega

end Go.Proofs.YtlgdjeiendmniaaGreatDoor
