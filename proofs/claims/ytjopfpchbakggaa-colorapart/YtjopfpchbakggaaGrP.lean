/- Ways through points as plain functions, which mirror the Go text; none: an index that isn't there, or not so soon. -/
import Derived.WalkKit
set_option linter.unusedSimpArgs false
set_option linter.unusedVariables false
set_option maxRecDepth 10000
namespace Go.Proofs.Ytjopfpchbakggaa
open Go.RowKit

/-- A point or none, as Go holds it. -/
def oI : Option Nat → Int
  | none => -1
  | some n => (n : Int)

/-- A walk. -/
structure GW where
  shut : List Bool
  next : List Nat
  wby : List (Option Nat)
  met : List Nat
  left : List Nat

def gPt (n : Nat) (x : Int) : Bool := decide (0 ≤ x) && decide (x < (n : Int))

/-- How many of a list are looked at until one may be gone to, and that one. -/
def gScan (n : Nat) (shut : List Bool) : List Int → Nat × Option Nat
  | [] => (0, none)
  | x :: r => if gPt n x && (shut[x.toNat]? == some false) then (1, some x.toNat) else match gScan n shut r with
    | (c, o) => (c + 1, o)

/-- The walk from where it looks on. -/
def gLook (g : List (List Int)) : Nat → GW → Nat → Option GW
  | 0, _, _ => none
  | k + 1, st, p => match g[p]?, st.next[p]? with
    | some l, some nx => match gScan g.length st.shut (l.drop nx) with
      | (c, some to) => gLook g k ⟨st.shut.set to true, st.next.set p (nx + c), st.wby.set to (some p), st.met ++ [to], st.left⟩ to
      | (c, none) => match st.wby[p]? with
        | none => none
        | some none => some ⟨st.shut, st.next.set p (nx + c), st.wby, st.met, st.left ++ [p]⟩
        | some (some b) => gLook g k ⟨st.shut, st.next.set p (nx + c), st.wby, st.met, st.left ++ [p]⟩ b
    | _, _ => none
def gFrom (g : List (List Int)) (K : Nat) (st : GW) (p : Nat) : Option GW := gLook g K ⟨st.shut.set p true, st.next, st.wby, st.met ++ [p], st.left⟩ p
def gNew (n : Nat) : GW := ⟨List.replicate n false, List.replicate n 0, List.replicate n none, [], []⟩
def gWalk (g : List (List Int)) (K : Nat) : Option GW := if g.length = 0 then some (gNew 0) else gFrom g K (gNew g.length) 0

/-- Of each point its place in a list. -/
def gPlc : List Nat → Nat → List (Option Nat) → List (Option Nat)
  | [], _, d => d
  | p :: r, i, d => gPlc r (i + 1) (d.set p (some i))
def gPlaces (n : Nat) (l : List Nat) : List (Option Nat) := gPlc l 0 (List.replicate n none)

/-- What leads to each point. -/
def gEnds (l : List Nat) (p : Nat) : Bool := l.getLast? == some p
def gPredL (n : Nat) (p : Nat) : List Int → List (List Nat) → List (List Nat)
  | [], ps => ps
  | x :: r, ps => gPredL n p r (if gPt n x && !gEnds (ps.getD x.toNat []) p then ps.set x.toNat (ps.getD x.toNat [] ++ [p]) else ps)
def gPredF (n : Nat) : List (List Int) → Nat → List (List Nat) → List (List Nat)
  | [], _, ps => ps
  | l :: r, p, ps => gPredF n r (p + 1) (gPredL n p l ps)
def gPreds (g : List (List Int)) : List (List Nat) := gPredF g.length g 0 (List.replicate g.length [])

/-- A climb. -/
structure GC where
  num : List (Option Nat)
  up : List Nat
  low : List Nat
  ent : List Nat
  way : List Nat
def gUp (up : List Nat) (n : Nat) : Nat → Nat → List Nat → Option (List Nat)
  | 0, _, _ => none
  | k + 1, p, way => match up[p]? with
    | none => none
    | some u => if n < u then gUp up n k u (way ++ [p]) else some way
def gPress : List Nat → List Nat → List Nat → Option (List Nat × List Nat)
  | [], up, low => some (up, low)
  | p :: r, up, low => match low[p]?, up[p]? with
    | some a, some u => match low[u]?, up[u]? with
      | some b, some v => gPress r (up.set p v) (low.set p (min a b))
      | _, _ => none
    | _, _ => none
def gLow (K : Nat) (c : GC) (m n : Nat) : Option (Nat × GC) :=
  if m ≤ n then some (m, c) else match gUp c.up n K m [] with
    | none => none
    | some way => match gPress way.reverse c.up c.low with
      | none => none
      | some (up, low) => match low[m]? with
        | none => none
        | some x => some (x, ⟨c.num, up, low, c.ent, way⟩)
def gEnt (K n : Nat) : List Nat → Nat → GC → Option (Nat × GC)
  | [], least, c => some (least, c)
  | p :: r, least, c => match c.num[p]? with
    | none => none
    | some none => gEnt K n r least c
    | some (some m) => match gLow K c m n with
      | none => none
      | some (x, c') => gEnt K n r (min least x) c'
def gCls (K : Nat) (met : List Nat) (wby : List (Option Nat)) (ps : List (List Nat)) : Nat → GC → Option GC
  | 0, c => some c
  | n + 1, c => match met[n + 1]? with
    | none => none
    | some p => match wby[p]?, ps[p]? with
      | some (some b), some l => match c.num[b]? with
        | some (some u) => match gEnt K (n + 1) l (n + 1) ⟨c.num, c.up.set (n + 1) u, c.low, c.ent, c.way⟩ with
          | none => none
          | some (x, c') => gCls K met wby ps n ⟨c'.num, c'.up, c'.low.set (n + 1) x, c'.ent.set (n + 1) x, c'.way⟩
        | _ => none
      | _, _ => none
def gClimb (K : Nat) (n : Nat) (met : List Nat) (wby : List (Option Nat)) (ps : List (List Nat)) : Option GC :=
  gCls K met wby ps (met.length - 1) ⟨gPlaces n met, List.replicate met.length 0, List.replicate met.length 0, List.replicate met.length 0, []⟩
/-- The immediate dominators. -/
def gDomUp (num idom : List (Option Nat)) (e : Nat) : Nat → Nat → Option Nat
  | 0, _ => none
  | k + 1, p => match num[p]? with
    | none => none
    | some x => if (e : Int) < oI x then match idom[p]? with
        | some (some q) => gDomUp num idom e k q
        | _ => none
      else some p
def gDomL (K : Nat) (wby num : List (Option Nat)) : List Nat → List Nat → List (Option Nat) → Option (List (Option Nat))
  | [], _, d => some d
  | _ :: _, [], _ => none
  | p :: r, e :: es, d => match wby[p]? with
    | some (some b) => match gDomUp num d e K b with
      | none => none
      | some q => gDomL K wby num r es (d.set p (some q))
    | _ => none
def gDoms (g : List (List Int)) (K : Nat) : Option (List (Option Nat)) :=
  match gWalk g K with
  | none => none
  | some w => match gClimb K g.length w.met w.wby (gPreds g) with
    | none => none
    | some c => gDomL K w.wby c.num (w.met.drop 1) (c.ent.drop 1) (List.replicate g.length none)

/-- Those of which a point is the immediate dominator. -/
def gKid : List (Option Nat) → Nat → List (List Nat) → Option (List (List Nat))
  | [], _, ks => some ks
  | none :: r, i, ks => gKid r (i + 1) ks
  | some a :: r, i, ks => match ks[a]? with
    | none => none
    | some l => gKid r (i + 1) (ks.set a (l ++ [i]))
def gKids (d : List (Option Nat)) : Option (List (List Nat)) := gKid d 0 (List.replicate d.length [])

/-- A nest. -/
structure GN where
  heads : List Bool
  outer : List (Option Nat)
  top : List Nat
  opn : List Nat
/-- What a nest looks at and does not change. -/
structure GZ where
  ps : List (List Nat)
  first : List (Option Nat)
  last : List (Option Nat)
def gOut : Nat → List Nat → Nat → Option (Nat × List Nat)
  | 0, _, _ => none
  | k + 1, top, p => match top[p]? with
    | none => none
    | some t => if t = p then some (p, top) else match top[t]? with
      | none => none
      | some u => gOut k (top.set p u) u
def gTake (K h p : Nat) (st : GN) : Option GN :=
  match gOut K st.top p with
  | none => none
  | some (q, top) => if q = h then some ⟨st.heads, st.outer, top, st.opn⟩ else some ⟨st.heads, st.outer.set q (some h), top.set q h, st.opn ++ [q]⟩
def gTakes (K h : Nat) (z : GZ) : List Nat → GN → Option GN
  | [], st => some st
  | p :: r, st => match z.first[p]? with
    | none => none
    | some none => gTakes K h z r st
    | some (some _) => match gTake K h p st with
      | none => none
      | some st' => gTakes K h z r st'
def gDm (z : GZ) (h p : Nat) : Option Bool :=
  match z.first[h]?, z.first[p]?, z.last[p]?, z.last[h]? with
  | some a, some b, some c, some d => some (decide (oI a ≤ oI b) && decide (oI c ≤ oI d))
  | _, _, _, _ => none
def gBack (K h : Nat) (z : GZ) : List Nat → GN → Option GN
  | [], st => some st
  | p :: r, st => match gDm z h p with
    | none => none
    | some false => gBack K h z r st
    | some true => match gTake K h p ⟨st.heads.set h true, st.outer, st.top, st.opn⟩ with
      | none => none
      | some st' => gBack K h z r st'
def gMore (K h : Nat) (z : GZ) : Nat → GN → Option GN
  | 0, _ => none
  | k + 1, st => match st.opn.getLast? with
    | none => some st
    | some p => match z.ps[p]? with
      | none => none
      | some l => match gTakes K h z l ⟨st.heads, st.outer, st.top, st.opn.dropLast⟩ with
        | none => none
        | some st' => gMore K h z k st'
def gFind (K h : Nat) (z : GZ) (st : GN) : Option GN :=
  match z.ps[h]? with
  | none => none
  | some l => match gBack K h z l st with
    | none => none
    | some st' => gMore K h z K st'
def gFinds (K : Nat) (z : GZ) : List Nat → GN → Option GN
  | [], st => some st
  | h :: r, st => match gFind K h z st with
    | none => none
    | some st' => gFinds K z r st'
def gUpG (ks : List (List Nat)) : List (List Int) := ks.map (fun l => l.map (fun (x : Nat) => (x : Int)))
def gNest (g : List (List Int)) (K : Nat) : Option (GZ × GN) :=
  match gDoms g K with
  | none => none
  | some d => match gKids d with
    | none => none
    | some ks => match gWalk (gUpG ks) K with
      | none => none
      | some w => match gFinds K ⟨gPreds g, gPlaces g.length w.met, gPlaces g.length w.left⟩ w.met.reverse ⟨List.replicate g.length false, List.replicate g.length none, List.range g.length, []⟩ with
        | none => none
        | some st => some (⟨gPreds g, gPlaces g.length w.met, gPlaces g.length w.left⟩, st)

/-- A Loop. -/
structure GL where
  head : Nat
  body : List Nat
  ins : Option Nat
/-- The Heads in order, as Loops with nothing in them. -/
def gHeads : List Bool → Nat → List (Option Nat) → List GL → List (Option Nat) × List GL
  | [], _, pl, ls => (pl, ls)
  | false :: r, i, pl, ls => gHeads r (i + 1) pl ls
  | true :: r, i, pl, ls => gHeads r (i + 1) (pl.set i (some ls.length)) (ls ++ [⟨i, [], none⟩])
def gIns (outer pl : List (Option Nat)) : Nat → Nat → List GL → Option (List GL)
  | 0, _, ls => some ls
  | k + 1, i, ls => match ls[i]? with
    | none => none
    | some x => match outer[x.head]? with
      | none => none
      | some none => gIns outer pl k (i + 1) ls
      | some (some a) => match pl[a]? with
        | none => none
        | some y => gIns outer pl k (i + 1) (ls.set i ⟨x.head, x.body, y⟩)
def gInm (st : GN) (p : Nat) : Option (Option Nat) :=
  match st.heads[p]? with
  | none => none
  | some true => some (some p)
  | some false => st.outer[p]?
def gBod (outer pl : List (Option Nat)) (p : Nat) : Nat → Option Nat → List GL → Option (List GL)
  | 0, _, _ => none
  | k + 1, none, ls => some ls
  | k + 1, some h, ls => match pl[h]?, outer[h]? with
    | some (some i), some o => match ls[i]? with
      | none => none
      | some x => gBod outer pl p k o (ls.set i ⟨x.head, x.body ++ [p], x.ins⟩)
    | _, _ => none
def gBods (K : Nat) (st : GN) (pl : List (Option Nat)) : Nat → Nat → List GL → Option (List GL)
  | 0, _, ls => some ls
  | k + 1, p, ls => match gInm st p with
    | none => none
    | some h => match gBod st.outer pl p K h ls with
      | none => none
      | some ls' => gBods K st pl k (p + 1) ls'
def gLoops (g : List (List Int)) (K : Nat) : Option (List GL) :=
  match gNest g K with
  | none => none
  | some (_, st) => match gHeads st.heads 0 (List.replicate g.length none) [] with
    | (pl, ls) => match gIns st.outer pl ls.length 0 ls with
      | none => none
      | some ls' => gBods K st pl g.length 0 ls'

end Go.Proofs.Ytjopfpchbakggaa
