/-
  No cell of these rows narrows 'for every input' (looked for: loops, veiled, ifaces, maps, wideKeys, modest, calm, conditions, laid).
  DERIVED. THE GIVEN ROWS OF THIS SEAT. 3 by the template 'for every input the law returns true; each argument reads behind the call as it read before'; 0 by the template 'total and deterministic' (their statements: YtglpdjkddekblabTotals.lean).
  GIVEN WITH THE SEED: the statements are not yours to turn. If you find one false, say at which input.
  Laid BY PROGRAM, IN A SANDBOX (cutbox-rows.mjs): the forced cells as the released guide's own fill.sh prints them over the translation 1cf019729a544924… (all of the seat's roots in one cut). By AI agents, Wed Nov 11 2026. No macro, syntax, notation, axiom, sorry.
-/
import Derived.Test.YtglpdjkddekblabChecked
import GoSem.Claim
import GoSem.ClaimJoined
import GoSem.ClaimMapViews
import Derived.JoinedTies
import Derived.KernelRfl
namespace Go.Proofs.Ytglpdjkddekblab
/- THE CELL 'sum', in the pinned program and in every row, IS THE sha256 OF THE DUMP (.gsa) THAT YtglpdjkddekblabProg.lean LOADS. Nothing in Lean hashes anything: it is a label: what it is worth is what the hold of that sum in a sandbox is worth. -/
noncomputable def Try.pinned : Pinned := { name := "ytglpdjkddekblab", sum := "1cf019729a544924b478ba8f9f95e66f50793930a1a20ecb84b3863b501227a0", checked := Try.checked }
namespace Rows
def none {H : Type} : Left H := { results := [], args := [] }

/-- 'ratlinelaw1.CplxBits': WHATEVER THE INPUT: true; the input reads as it did. -/
def cplxBitsSpec : ChangeSpec := { name := "cplxBits", fn := fun _ => fun
  | [d1, d2] => { results := [.lit (.bool true)], args := [d1, d2] }
  | _ => none }
def cplxBitsRow : OpenClaim := { program := "ytglpdjkddekblab", sum := "1cf019729a544924b478ba8f9f95e66f50793930a1a20ecb84b3863b501227a0", func := "ratline/ratlinelaw1.CplxBits", spec := "cplxBits", inPlace := ["math.Float64frombits", "math.Float64bits"], apart := false }
def CplxBitsSaid : Prop := cplxBitsRow.holds Try.pinned (OpenSpec.ofChange cplxBitsSpec)

/-- ITS FALSE NEIGHBOUR: 'it returns false'. Refute it at one input. -/
def cplxBitsWrong : ChangeSpec := { name := "cplxBits", fn := fun _ => fun
  | [d1, d2] => { results := [.lit (.bool false)], args := [d1, d2] }
  | _ => none }
def CplxBitsWrongFalsely : Prop := cplxBitsRow.holds Try.pinned (OpenSpec.ofChange cplxBitsWrong)

/-- 'ratlinelaw1.CplxReads': WHATEVER THE INPUT: true; the input reads as it did. -/
def cplxReadsSpec : ChangeSpec := { name := "cplxReads", fn := fun _ => fun
  | [d1, d2, d3, d4, d5] => { results := [.lit (.bool true)], args := [d1, d2, d3, d4, d5] }
  | _ => none }
def cplxReadsRow : OpenClaim := { program := "ytglpdjkddekblab", sum := "1cf019729a544924b478ba8f9f95e66f50793930a1a20ecb84b3863b501227a0", func := "ratline/ratlinelaw1.CplxReads", spec := "cplxReads", inPlace := ["math.Float64frombits", "math.Float64bits"], apart := false }
def CplxReadsSaid : Prop := cplxReadsRow.holds Try.pinned (OpenSpec.ofChange cplxReadsSpec)

/-- ITS FALSE NEIGHBOUR: 'it returns false'. Refute it at one input. -/
def cplxReadsWrong : ChangeSpec := { name := "cplxReads", fn := fun _ => fun
  | [d1, d2, d3, d4, d5] => { results := [.lit (.bool false)], args := [d1, d2, d3, d4, d5] }
  | _ => none }
def CplxReadsWrongFalsely : Prop := cplxReadsRow.holds Try.pinned (OpenSpec.ofChange cplxReadsWrong)

/-- 'ratlinelaw1.CplxWholes': WHATEVER THE INPUT: true; the input reads as it did. -/
def cplxWholesSpec : ChangeSpec := { name := "cplxWholes", fn := fun _ => fun
  | [d1, d2, d3, d4] => { results := [.lit (.bool true)], args := [d1, d2, d3, d4] }
  | _ => none }
def cplxWholesRow : OpenClaim := { program := "ytglpdjkddekblab", sum := "1cf019729a544924b478ba8f9f95e66f50793930a1a20ecb84b3863b501227a0", func := "ratline/ratlinelaw1.CplxWholes", spec := "cplxWholes", inPlace := ["math.Float64bits", "math.Float64frombits"], apart := false }
def CplxWholesSaid : Prop := cplxWholesRow.holds Try.pinned (OpenSpec.ofChange cplxWholesSpec)

/-- ITS FALSE NEIGHBOUR: 'it returns false'. Refute it at one input. -/
def cplxWholesWrong : ChangeSpec := { name := "cplxWholes", fn := fun _ => fun
  | [d1, d2, d3, d4] => { results := [.lit (.bool false)], args := [d1, d2, d3, d4] }
  | _ => none }
def CplxWholesWrongFalsely : Prop := cplxWholesRow.holds Try.pinned (OpenSpec.ofChange cplxWholesWrong)

/- THE SECOND FORM. 'bulk': how many values and letters a reading holds, each counted each time it is reached (what is shared counts as often as it is met; a slice's spare places count too). A statement '..UptoSaid' is the law's where the arguments, and the package variables that the reading takes, are together of bulk at most 1048576: NARROWER than '..Said'. Prove '..Said' where nothing that the law and all that it calls make is longer than what came in: it says more and counts as full. Else prove '..UptoSaid'. A law counts once. -/
mutual
def uptoBulk {H : Type} : DataW H → Nat
  | .lit (.string bytes) => bytes.length + 1
  | .lit _ => 1
  | .nil => 1
  | .ptr d => uptoBulk d + 1
  | .slice elems spare => uptoBulkAll elems + uptoBulkAll spare + 1
  | .agg parts => uptoBulkAll parts + 1
  | .iface _ d => uptoBulk d + 1
  | .map entries => uptoBulkEntries entries + 1
  | .held _ => 1
def uptoBulkAll {H : Type} : List (DataW H) → Nat
  | [] => 0
  | d :: r => uptoBulk d + uptoBulkAll r
def uptoBulkEntries {H : Type} : List (Lit × DataW H) → Nat
  | [] => 0
  | x :: r => uptoBulkEntry x + uptoBulkEntries r
def uptoBulkEntry {H : Type} : Lit × DataW H → Nat
  | (.string bytes, d) => bytes.length + uptoBulk d + 1
  | (_, d) => uptoBulk d + 1
 end
def uptoSmall : (H : Type) → List (DataW H) → Bool := fun _ ds => decide (uptoBulkAll ds ≤ 1048576)
def OpenSpec.upto (s : _root_.Go.ChangeSpec) : _root_.Go.OpenSpec := { _root_.Go.OpenSpec.ofChange s with cond := some uptoSmall }

/-- 'ratlinelaw1.CplxBits', WHERE WHAT IT READS IS OF BULK AT MOST 1048576: true; the input reads as it did. -/
def cplxBitsUptoRow : OpenClaim := { program := "ytglpdjkddekblab", sum := "1cf019729a544924b478ba8f9f95e66f50793930a1a20ecb84b3863b501227a0", func := "ratline/ratlinelaw1.CplxBits", spec := "cplxBits", inPlace := ["math.Float64frombits", "math.Float64bits"], apart := false, narrowed := true }
def CplxBitsUptoSaid : Prop := cplxBitsUptoRow.holds Try.pinned (OpenSpec.upto cplxBitsSpec)

/-- 'ratlinelaw1.CplxReads', WHERE WHAT IT READS IS OF BULK AT MOST 1048576: true; the input reads as it did. -/
def cplxReadsUptoRow : OpenClaim := { program := "ytglpdjkddekblab", sum := "1cf019729a544924b478ba8f9f95e66f50793930a1a20ecb84b3863b501227a0", func := "ratline/ratlinelaw1.CplxReads", spec := "cplxReads", inPlace := ["math.Float64frombits", "math.Float64bits"], apart := false, narrowed := true }
def CplxReadsUptoSaid : Prop := cplxReadsUptoRow.holds Try.pinned (OpenSpec.upto cplxReadsSpec)

/-- 'ratlinelaw1.CplxWholes', WHERE WHAT IT READS IS OF BULK AT MOST 1048576: true; the input reads as it did. -/
def cplxWholesUptoRow : OpenClaim := { program := "ytglpdjkddekblab", sum := "1cf019729a544924b478ba8f9f95e66f50793930a1a20ecb84b3863b501227a0", func := "ratline/ratlinelaw1.CplxWholes", spec := "cplxWholes", inPlace := ["math.Float64bits", "math.Float64frombits"], apart := false, narrowed := true }
def CplxWholesUptoSaid : Prop := cplxWholesUptoRow.holds Try.pinned (OpenSpec.upto cplxWholesSpec)

end Rows
end Go.Proofs.Ytglpdjkddekblab
