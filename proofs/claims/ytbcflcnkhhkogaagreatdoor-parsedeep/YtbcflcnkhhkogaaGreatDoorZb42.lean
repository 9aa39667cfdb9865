/- The texts of ParseDeep. -/
import Derived.Test.YtbcflcnkhhkogaaGreatDoorZb30
set_option linter.unusedSimpArgs false
set_option linter.unusedVariables false
set_option maxRecDepth 10000

namespace Go.Proofs.YtbcflcnkhhkogaaGreatDoor
open Go.RowKit

def dpO (k : Nat) : List UInt8 := match k with
  | 0 => [40, 32]
  | 1 => [91, 32]
  | 2 => [102, 32, 40, 32]
  | 3 => [97, 32, 91, 32]
  | 4 => [45, 32]
  | 5 => [33, 32]
  | _ => []
def dpE (k : Nat) : List UInt8 := match k with
  | 0 => [32, 41]
  | 1 => [32, 93]
  | 2 => [32, 41]
  | 3 => [32, 93]
  | 4 => []
  | 5 => []
  | _ => []
/-- So many of them, one behind the other. -/
def rp (l : List UInt8) : Nat → List UInt8
  | 0 => []
  | n + 1 => rp l n ++ l
theorem rp_len (l : List UInt8) : ∀ n, (rp l n).length = n * l.length := by
  intro n
  induction n with
  | zero => simp [rp]
  | succ n ih => rw [rp, List.length_append, ih, Nat.succ_mul]
def dpS (k n : Nat) : List UInt8 := rp (dpO k) n ++ [97] ++ rp (dpE k) n
def dpW (k : Nat) : Int := 24 * ((dpO k).length : Int) + (if k = 3 then 2 else 0)
def dpOk (k n : Nat) : Bool :=
  decide ((begP ⟨(dpS k n).toArray⟩).ts.length < 200) && (if n ≤ 24 then decide ((xrP ⟨(dpS k n).toArray⟩ 200).2.e = 0) else (decide ((xrP ⟨(dpS k n).toArray⟩ 200).2.e = 21) && decide ((xrP ⟨(dpS k n).toArray⟩ 200).2.pl = dpW k)))
def dpRow (k : Nat) : Bool := (List.range 40).all (fun i => dpOk k (i + 1))

end Go.Proofs.YtbcflcnkhhkogaaGreatDoor
