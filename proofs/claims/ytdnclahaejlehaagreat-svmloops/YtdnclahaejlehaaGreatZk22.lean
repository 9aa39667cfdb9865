/- What is read: its texts are words;while,break and continue stand as they should;without a fault it has no more nodes than words were taken. · Going through a function's names,as plain functions. · The document's going through names,as plain functions;it finds what scope finds. · Scope's way through a tree by a stack of its own finds what the document's way finds. · What Check tells of functions that were read is what the document tells. -/
import Derived.Test.YtdnclahaejlehaaGreatZk12
import Derived.Test.YtdnclahaejlehaaGreatZk20
import Derived.Maps.OwnSet
import Derived.StringKeys
import Derived.Test.YtdnclahaejlehaaGreatZk5
set_option linter.unusedSimpArgs false
set_option linter.unusedVariables false
set_option maxRecDepth 10000
namespace Go.Proofs.YtdnclahaejlehaaGreat
open Go.RowKit
section
mutual
/-- How many nodes a tree has. -/
def nsz:PN→Nat
 | ⟨_,_,_,_,l⟩ => 1+nszL l
def nszL:List PN→Nat
 | [] => 0
 | p :: l=>nsz p+nszL l
end
theorem nszL_append:∀ (a b:List PN),nszL (a++b)=nszL a+nszL b
 | [],b=>by simp[nszL]
 | p :: a,b=>by rw[List.cons_append,nszL,nszL,nszL_append a b];omega
theorem nszL_mem {x:PN}:∀ {l:List PN},x ∈ l→nsz x≤nszL l
 | [],h=>by cases h
 | p :: l,h=>by
  rw[nszL];rcases List.mem_cons.1 h with rfl | h
  ·omega
  ·have:=nszL_mem h;omega
theorem nsz_pos (p:PN):1≤nsz p:=by cases p;rw[nsz];omega
def nXf:Nat→PN→Prop
 | 0,_=>False
 | f+1,p=>p.k≠4∧p.k≠5∧p.k≠6∧p.s.size≤4000∧∀ x ∈ p.l,nXf f x
def nX (p:PN):Prop:=∃ f,nXf f p
def gXf:Nat→PN→Prop
 | 0,_=>False
 | f+1,p=>p.s.size≤4000∧(p.k=4→∃ c b,p.l = [c,b]∧nX c)∧(p.k=5∨p.k=6→p.l = [])∧∀ x ∈ p.l,gXf f x
def gX (p:PN):Prop:=∃ f,gXf f p
theorem gX.sub {p x:PN} (h:gX p) (hx:x ∈ p.l):gX x:=by
 obtain⟨f,hf⟩:=h;cases f with
 | zero=>exact hf.elim
 | succ f=>exact⟨f,hf.2.2.2 x hx⟩
theorem gX.props {p:PN} (h:gX p):p.s.size≤4000∧(p.k=4→∃ c b,p.l = [c,b]∧nX c)∧(p.k=5∨p.k=6→p.l = []):=by
 obtain⟨f,hf⟩:=h;cases f with
 | zero=>exact hf.elim
 | succ f=>exact⟨hf.1,hf.2.1,hf.2.2.1⟩
end
section
open Go.RowKit Go.Maps
def lkp (lm:List (ByteArray × Int)) (s:ByteArray):Option Int:=(lm.find? (fun p=>p.1.data.toList == s.data.toList)).map (·.2)
def biL:List (ByteArray × Int × Int):=[(⟨#[112,117,115,104]⟩,13,2),(⟨#[99,120]⟩,14,2),(⟨#[108,101,110]⟩,17,1),(⟨#[114,101]⟩,18,1),(⟨#[105,109]⟩,19,1),(⟨#[99,111,110,106]⟩,20,1)]
def biP (s:ByteArray):Option (Int × Int):=(biL.find? (fun p=>p.1.data.toList == s.data.toList)).map (·.2)
def nums:List PFn→Nat→List (ByteArray × Int)→Option (List (ByteArray × Int))
 | [],_,nm=>some nm
 | p :: r,i,nm=>if (lkp nm p.nm).isSome || (biP p.nm).isSome then none else nums r (i+1) ((p.nm,(i:Int)) :: nm)
structure PSc where
 lc:Int
 sl:List Int
 cl:List Int
end
section
open Go.RowKit Go.Maps
structure DK where
 see:List (ByteArray × Int)
 lp:Int
 lc:Int
 sl:List Int
 cl:List Int
 e:Int
def fnd (see:List (ByteArray × Int)) (s:ByteArray):Option Int:=lkp see.reverse s
def DK.use (d:DK) (s:ByteArray):DK:=match fnd d.see s with
 | none => { d with e:=11 }
 | some v => { d with sl:=d.sl++[v] }
def DK.letD (d:DK) (s:ByteArray):DK:=if d.e≠0 then d else if (fnd d.see s).isSome then { d with e:=11 } else { d with see:=d.see++[(s,d.lc)],sl:=d.sl++[d.lc],lc:=d.lc+1 }
def idxF:List PFn→ByteArray→Nat→Option Nat
 | [],_,_=>none
 | p :: r,s,i=>if p.nm.data.toList == s.data.toList then some i else idxF r s (i+1)
def DK.callD (d:DK) (fs:List PFn) (s:ByteArray) (n:Nat):DK:=if d.e≠0 then d else match idxF fs s 0 with
 | some i=>if ((fs[i]?).map (·.ps.length)).getD 0≠n then { d with e:=12 } else { d with cl:=d.cl++[(i:Int)] }
 | none=>match biP s with
  | none => { d with e:=11 }
  | some (op,k)=>if k≠(n:Int) then { d with e:=12 } else { d with cl:=d.cl++[1000+op] }
def dEnd (fs:List PFn) (k:Int) (s:ByteArray) (n mark:Nat) (d:DK):DK :=
 if k=1 then d.letD s else if k=10 then { d with see:=d.see.take mark } else if k=20 then d.callD fs s n else d
def dBeg (k:Int) (s:ByteArray) (d:DK):DK:=if k=2∨k=19 then d.use s else d
def dW (fs:List PFn):Nat→PN→DK→DK
 | 0,_,d=>d
 | f+1,p,d=>if d.e≠0 then d else
  if p.k=4 then (match p.l with
   | [c,b] => { dW fs f b { dW fs f c d with lp:=(dW fs f c d).lp+1 } with lp:=(dW fs f b { dW fs f c d with lp:=(dW fs f c d).lp+1 }).lp - 1 }
   | _=>d)
  else if p.k=5∨p.k=6 then (if d.lp=0 then { d with e:=11 } else d)
  else dEnd fs p.k p.s p.l.length d.see.length (p.l.foldl (fun d x=>dW fs f x d) (dBeg p.k p.s d))
theorem dW_bad (fs:List PFn):∀ (f:Nat) (p:PN) (d:DK),d.e≠0→dW fs f p d=d
 | 0,p,d,h=>rfl
 | f+1,p,d,h=>by rw[dW,if_pos h]
theorem lkp_c (s s':ByteArray) (v:Int) (r:List (ByteArray × Int)):lkp ((s',v) :: r) s=if s'.data.toList == s.data.toList then some v else lkp r s:=by
 unfold lkp;rw[List.find?_cons];cases h:(s'.data.toList == s.data.toList) <;> simp[h]
theorem biP_op {s:ByteArray} {op n:Int} (h:biP s=some (op,n)):0≤op∧op≤20:=by
 unfold biP at h;cases hf:biL.find? (fun p=>p.1.data.toList == s.data.toList) with
 | none=>rw[hf] at h;cases h
 | some q =>
  rw[hf] at h;have hm:=List.mem_of_find?_eq_some hf;have hall:biL.all (fun q=>decide (0≤q.2.1) && decide (q.2.1≤20))=true:=by decide +kernel
  have h2:=List.all_eq_true.1 hall q hm;injection h with h;have h':q.2=(op,n):=h;rw[h'] at h2
  simpa using h2
end
section
open Go.RowKit Go.Maps
variable {nm:List (ByteArray × Int)} {fs:List PFn}
theorem pre_take {α:Type} {a b:List α} (h:a <+: b):b.take a.length=a:=by
 obtain⟨t,rfl⟩:=h;simp
end
section
open Go.RowKit Go.Maps
def prmD:List ByteArray→Nat→List (ByteArray × Int)→Option (List (ByteArray × Int))
 | [],_,see=>some see
 | s :: r,k,see=>if (fnd see s).isSome then none else prmD r (k+1) (see++[(s,(k:Int))])
def dFn (fs:List PFn) (p:PFn):PSc × Int:=match prmD p.ps 0 [] with
 | none=>(⟨0,[],[]⟩,11)
 | some see=>if (dW fs (nsz p.bd) p.bd ⟨see,0,(p.ps.length:Int),[],[],0⟩).e≠0 then (⟨0,[],[]⟩,(dW fs (nsz p.bd) p.bd ⟨see,0,(p.ps.length:Int),[],[],0⟩).e)
  else if 64 < (dW fs (nsz p.bd) p.bd ⟨see,0,(p.ps.length:Int),[],[],0⟩).lc then (⟨0,[],[]⟩,65)
  else (⟨(dW fs (nsz p.bd) p.bd ⟨see,0,(p.ps.length:Int),[],[],0⟩).lc,(dW fs (nsz p.bd) p.bd ⟨see,0,(p.ps.length:Int),[],[],0⟩).sl,(dW fs (nsz p.bd) p.bd ⟨see,0,(p.ps.length:Int),[],[],0⟩).cl⟩,0)
def dChk (fs:List PFn):List PFn→List PSc→List PSc × Int
 | [],acc=>(acc,0)
 | p :: r,acc=>if (dFn fs p).2≠0 then ([],(dFn fs p).2) else dChk fs r (acc++[(dFn fs p).1])
def mainD (fs:List PFn):Int:=match idxF fs ⟨#[109,97,105,110]⟩ 0 with
 | none => 11
 | some i=>if 0 < ((fs[i]?).map (·.ps.length)).getD 0 then 12 else 0
def docP (fs:List PFn):List PSc × Int:=match nums fs 0 [] with
 | none=>([],11)
 | some _=>if (dChk fs fs []).2≠0 then ([],(dChk fs fs []).2) else if mainD fs≠0 then ([],mainD fs) else ((dChk fs fs []).1,0)
end
end Go.Proofs.YtdnclahaejlehaaGreat
