/-
  No cell of these rows narrows 'for every input' (looked for: loops, veiled, ifaces, maps, wideKeys, modest, calm, conditions, laid).
  DERIVED. THE GIVEN ROWS OF THIS SEAT. 4 by the template 'for every input the law returns true; each argument reads behind the call as it read before'; 0 by the template 'total and deterministic' (their statements: YtdnclahaejlehaaGreatTotals.lean).
  GIVEN WITH THE SEED: the statements are not yours to turn. If you find one false, say at which input.
  Laid BY PROGRAM, IN A SANDBOX (cutbox-rows.mjs): the forced cells as the released guide's own fill.sh prints them over the translation 00eab8e002495e1e… (all of the seat's roots in one cut). By AI agents, Wed Nov 11 2026. No macro, syntax, notation, axiom, sorry.
-/
import Derived.Test.YtdnclahaejlehaaGreatChecked
import GoSem.Claim
import GoSem.ClaimJoined
import GoSem.ClaimMapViews
import Derived.JoinedTies
import Derived.KernelRfl
namespace Go.Proofs.YtdnclahaejlehaaGreat
/- THE CELL 'sum', in the pinned program and in every row, IS THE sha256 OF THE DUMP (.gsa) THAT YtdnclahaejlehaaGreatProg.lean LOADS. Nothing in Lean hashes anything: it is a label: what it is worth is what the hold of that sum in a sandbox is worth. -/
noncomputable def Tryz.pinned : Pinned := { name := "ytdnclahaejlehaagreat", sum := "00eab8e002495e1edc61928416ac8da17885ea75d5d488f2481754f8ba47b532", checked := Tryz.checked }
namespace Rows
def none {H : Type} : Left H := { results := [], args := [] }

/-- 'ratlinelaw9.SvmLoops': WHATEVER THE INPUT: true; the input reads as it did. -/
def svmLoopsSpec : ChangeSpec := { name := "svmLoops", fn := fun _ => fun
  | [d1, d2, d3] => { results := [.lit (.bool true)], args := [d1, d2, d3] }
  | _ => none }
def svmLoopsRow : OpenClaim := { program := "ytdnclahaejlehaagreat", sum := "00eab8e002495e1edc61928416ac8da17885ea75d5d488f2481754f8ba47b532", func := "ratline/ratlinelaw9.SvmLoops", spec := "svmLoops", inPlace := ["math.Float64bits", "math.Float64frombits", "internal/bytealg.abigen_runtime_cmpstring"], unfollowed := true, recurses := true, apart := false }
def SvmLoopsSaid : Prop := svmLoopsRow.holds Tryz.pinned (OpenSpec.ofChange svmLoopsSpec)

/-- ITS FALSE NEIGHBOUR: 'it returns false'. Refute it at one input. -/
def svmLoopsWrong : ChangeSpec := { name := "svmLoops", fn := fun _ => fun
  | [d1, d2, d3] => { results := [.lit (.bool false)], args := [d1, d2, d3] }
  | _ => none }
def SvmLoopsWrongFalsely : Prop := svmLoopsRow.holds Tryz.pinned (OpenSpec.ofChange svmLoopsWrong)

/-- 'ratlinelaw9.SvmShorts': WHATEVER THE INPUT: true; the input reads as it did. -/
def svmShortsSpec : ChangeSpec := { name := "svmShorts", fn := fun _ => fun
  | [d1, d2, d3] => { results := [.lit (.bool true)], args := [d1, d2, d3] }
  | _ => none }
def svmShortsRow : OpenClaim := { program := "ytdnclahaejlehaagreat", sum := "00eab8e002495e1edc61928416ac8da17885ea75d5d488f2481754f8ba47b532", func := "ratline/ratlinelaw9.SvmShorts", spec := "svmShorts", inPlace := ["math.Float64bits", "math.Float64frombits", "internal/bytealg.abigen_runtime_cmpstring"], unfollowed := true, recurses := true, apart := false }
def SvmShortsSaid : Prop := svmShortsRow.holds Tryz.pinned (OpenSpec.ofChange svmShortsSpec)

/-- ITS FALSE NEIGHBOUR: 'it returns false'. Refute it at one input. -/
def svmShortsWrong : ChangeSpec := { name := "svmShorts", fn := fun _ => fun
  | [d1, d2, d3] => { results := [.lit (.bool false)], args := [d1, d2, d3] }
  | _ => none }
def SvmShortsWrongFalsely : Prop := svmShortsRow.holds Tryz.pinned (OpenSpec.ofChange svmShortsWrong)

/-- 'ratlinelaw9.SvmFuels': WHATEVER THE INPUT: true; the input reads as it did. -/
def svmFuelsSpec : ChangeSpec := { name := "svmFuels", fn := fun _ => fun
  | [d1, d2, d3] => { results := [.lit (.bool true)], args := [d1, d2, d3] }
  | _ => none }
def svmFuelsRow : OpenClaim := { program := "ytdnclahaejlehaagreat", sum := "00eab8e002495e1edc61928416ac8da17885ea75d5d488f2481754f8ba47b532", func := "ratline/ratlinelaw9.SvmFuels", spec := "svmFuels", inPlace := ["math.Float64bits", "math.Float64frombits", "internal/bytealg.abigen_runtime_cmpstring"], unfollowed := true, recurses := true, apart := false }
def SvmFuelsSaid : Prop := svmFuelsRow.holds Tryz.pinned (OpenSpec.ofChange svmFuelsSpec)

/-- ITS FALSE NEIGHBOUR: 'it returns false'. Refute it at one input. -/
def svmFuelsWrong : ChangeSpec := { name := "svmFuels", fn := fun _ => fun
  | [d1, d2, d3] => { results := [.lit (.bool false)], args := [d1, d2, d3] }
  | _ => none }
def SvmFuelsWrongFalsely : Prop := svmFuelsRow.holds Tryz.pinned (OpenSpec.ofChange svmFuelsWrong)

/-- 'ratlinelaw9.SvmCalls': WHATEVER THE INPUT: true; the input reads as it did. -/
def svmCallsSpec : ChangeSpec := { name := "svmCalls", fn := fun _ => fun
  | [d1, d2] => { results := [.lit (.bool true)], args := [d1, d2] }
  | _ => none }
def svmCallsRow : OpenClaim := { program := "ytdnclahaejlehaagreat", sum := "00eab8e002495e1edc61928416ac8da17885ea75d5d488f2481754f8ba47b532", func := "ratline/ratlinelaw9.SvmCalls", spec := "svmCalls", inPlace := ["math.Float64bits", "math.Float64frombits", "internal/bytealg.abigen_runtime_cmpstring"], unfollowed := true, recurses := true, apart := false }
def SvmCallsSaid : Prop := svmCallsRow.holds Tryz.pinned (OpenSpec.ofChange svmCallsSpec)

/-- ITS FALSE NEIGHBOUR: 'it returns false'. Refute it at one input. -/
def svmCallsWrong : ChangeSpec := { name := "svmCalls", fn := fun _ => fun
  | [d1, d2] => { results := [.lit (.bool false)], args := [d1, d2] }
  | _ => none }
def SvmCallsWrongFalsely : Prop := svmCallsRow.holds Tryz.pinned (OpenSpec.ofChange svmCallsWrong)

/- THE SECOND FORM. 'bulk': how many values and letters a reading holds, each counted each time it is reached (what is shared counts as often as it is met; a slice's spare places count too). A statement '..UptoSaid' is the law's where the arguments, and the package variables that the reading takes, are together of bulk at most 1048576: NARROWER than '..Said'. Prove '..Said' where nothing that the law and all that it calls make is longer than what came in: it says more and counts as full. Else prove '..UptoSaid'. A law counts once. -/
mutual
def uptoBulk {H : Type} : DataW H → Nat
  | .lit (.string bytes) => bytes.length + 1
  | .lit _ => 1
  | .nil => 1
  | .ptr d => uptoBulk d + 1
  | .slice elems spare => uptoBulkAll elems + uptoBulkAll spare + 1
  | .agg parts => uptoBulkAll parts + 1
  | .iface _ d => uptoBulk d + 1
  | .map entries => uptoBulkEntries entries + 1
  | .held _ => 1
def uptoBulkAll {H : Type} : List (DataW H) → Nat
  | [] => 0
  | d :: r => uptoBulk d + uptoBulkAll r
def uptoBulkEntries {H : Type} : List (Lit × DataW H) → Nat
  | [] => 0
  | x :: r => uptoBulkEntry x + uptoBulkEntries r
def uptoBulkEntry {H : Type} : Lit × DataW H → Nat
  | (.string bytes, d) => bytes.length + uptoBulk d + 1
  | (_, d) => uptoBulk d + 1
 end
def uptoSmall : (H : Type) → List (DataW H) → Bool := fun _ ds => decide (uptoBulkAll ds ≤ 1048576)
def OpenSpec.upto (s : _root_.Go.ChangeSpec) : _root_.Go.OpenSpec := { _root_.Go.OpenSpec.ofChange s with cond := some uptoSmall }

/-- 'ratlinelaw9.SvmLoops', WHERE WHAT IT READS IS OF BULK AT MOST 1048576: true; the input reads as it did. -/
def svmLoopsUptoRow : OpenClaim := { program := "ytdnclahaejlehaagreat", sum := "00eab8e002495e1edc61928416ac8da17885ea75d5d488f2481754f8ba47b532", func := "ratline/ratlinelaw9.SvmLoops", spec := "svmLoops", inPlace := ["math.Float64bits", "math.Float64frombits", "internal/bytealg.abigen_runtime_cmpstring"], unfollowed := true, recurses := true, apart := false, narrowed := true }
def SvmLoopsUptoSaid : Prop := svmLoopsUptoRow.holds Tryz.pinned (OpenSpec.upto svmLoopsSpec)

/-- 'ratlinelaw9.SvmShorts', WHERE WHAT IT READS IS OF BULK AT MOST 1048576: true; the input reads as it did. -/
def svmShortsUptoRow : OpenClaim := { program := "ytdnclahaejlehaagreat", sum := "00eab8e002495e1edc61928416ac8da17885ea75d5d488f2481754f8ba47b532", func := "ratline/ratlinelaw9.SvmShorts", spec := "svmShorts", inPlace := ["math.Float64bits", "math.Float64frombits", "internal/bytealg.abigen_runtime_cmpstring"], unfollowed := true, recurses := true, apart := false, narrowed := true }
def SvmShortsUptoSaid : Prop := svmShortsUptoRow.holds Tryz.pinned (OpenSpec.upto svmShortsSpec)

/-- 'ratlinelaw9.SvmFuels', WHERE WHAT IT READS IS OF BULK AT MOST 1048576: true; the input reads as it did. -/
def svmFuelsUptoRow : OpenClaim := { program := "ytdnclahaejlehaagreat", sum := "00eab8e002495e1edc61928416ac8da17885ea75d5d488f2481754f8ba47b532", func := "ratline/ratlinelaw9.SvmFuels", spec := "svmFuels", inPlace := ["math.Float64bits", "math.Float64frombits", "internal/bytealg.abigen_runtime_cmpstring"], unfollowed := true, recurses := true, apart := false, narrowed := true }
def SvmFuelsUptoSaid : Prop := svmFuelsUptoRow.holds Tryz.pinned (OpenSpec.upto svmFuelsSpec)

/-- 'ratlinelaw9.SvmCalls', WHERE WHAT IT READS IS OF BULK AT MOST 1048576: true; the input reads as it did. -/
def svmCallsUptoRow : OpenClaim := { program := "ytdnclahaejlehaagreat", sum := "00eab8e002495e1edc61928416ac8da17885ea75d5d488f2481754f8ba47b532", func := "ratline/ratlinelaw9.SvmCalls", spec := "svmCalls", inPlace := ["math.Float64bits", "math.Float64frombits", "internal/bytealg.abigen_runtime_cmpstring"], unfollowed := true, recurses := true, apart := false, narrowed := true }
def SvmCallsUptoSaid : Prop := svmCallsUptoRow.holds Tryz.pinned (OpenSpec.upto svmCallsSpec)

end Rows
end Go.Proofs.YtdnclahaejlehaaGreat
