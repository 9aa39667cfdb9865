/- The document's stack code,as plain functions: of trees whose constants are nil,whole numbers,2i and the empty text. -/
import Derived.StillTailTactics
import Derived.Test.YtjnpehohialmbaaGreatZs37
import Derived.Test.YtjnpehohialmbaaGreatZs33
import Derived.Test.YtjnpehohialmbaaGreatZs11
set_option linter.unusedSimpArgs false
set_option linter.unusedVariables false
set_option maxRecDepth 10000
set_option maxHeartbeats 2000000
namespace Go.Proofs.YtjnpehohialmbaaGreat
open Go.RowKit
section
structure RG where
 code:List KI
 cs:List (Option V.RK)
 sp:Nat
 cp:Nat
 tk:Int
 br:List Nat
 nx:List Nat
def rIx (v:Option V.RK):List (Option V.RK)→Nat→Option Nat
 | [],_=>none
 | x :: r,i=>if x=v then some i else rIx v r (i+1)
def RG.add (m:RG) (op a b:Int):RG:={ m with code:=m.code++[⟨op,a,b⟩] }
def RG.tick (m:RG):RG:=({ m with tk:=m.tk+1 }:RG).add 12 (m.tk+1) 0
def RG.cst (m:RG) (v:Option V.RK):RG:=match rIx v m.cs 0 with
 | some i=>m.add 1 (i:Int) 0
 | none=>({ m with cs:=m.cs++[v] }:RG).add 1 (m.cs.length:Int) 0
def ld1 (code:List KI) (n:Int) (j:Nat):List KI:=match code[j]? with
 | none=>code
 | some i=>code.set j ⟨i.op,n,i.b⟩
def RG.land (m:RG) (l:List Nat):RG:={ m with code:=l.foldl (fun c j=>ld1 c (m.code.length:Int) j) m.code }
def RG.ok (m:RG):Bool:=decide (m.code.length≤50000) && (decide (m.cs.length≤50000) && (decide (0≤m.tk∧m.tk≤50000) && (m.cs.all V.rcB && (decide (m.sp≤50000∧m.cp≤50000∧m.br.length≤50000∧m.nx.length≤50000) && (m.br.all (fun j=>decide (j < m.code.length)) && m.nx.all (fun j=>decide (j < m.code.length)))))))
def rG (m:RG):Option RG:=if m.ok then some m else none
def rAll (nd:PN→RG→Option RG):List PN→RG→Option RG
 | [],m=>some m
 | x :: r,m=>match nd x m with
  | none=>none
  | some m'=>rAll nd r m'
def RG.dec (m:RG) (a b:Int) (l:List Nat):RG:=((((m.cst (some (.inl a))).add 7 0 0).land l).cst (some (.inl b))).land [(m.cst (some (.inl a))).code.length]
def rB {α:Type} (o:Option α) (k:α→Option RG):Option RG:=match o with
 | none=>none
 | some m=>k m
theorem rB_some {α:Type} {o:Option α} {k:α→Option RG} {m':RG} (h:rB o k=some m'):∃ m,o=some m∧k m=some m':=by
 cases o with
 | none=>cases h
 | some m=>exact⟨m,rfl,h⟩
def rLet (nd:PN→RG→Option RG) (sl:List Int) (l:List PN) (m:RG):Option RG:=rB (rAll nd l m) fun m1=>rB sl[m1.sp]? fun k=>rG (({ m1 with sp:=m1.sp+1 }:RG).add 3 k 0)
def rSet (nd:PN→RG→Option RG) (sl:List Int) (l:List PN) (m:RG):Option RG:=rB sl[m.sp]? fun k=>rB (rG { m with sp:=m.sp+1 }) fun m0=>rB (rAll nd l m0) fun m1=>rG (m1.add 3 k 0)
def rThen (nd:PN→RG→Option RG) (op a:Int) (l:List PN) (m:RG):Option RG:=rB (rAll nd l m) fun m1=>rG (m1.add op a 0)
def rRet (nd:PN→RG→Option RG) (l:List PN) (m:RG):Option RG:=rB (rG (if l = [] then m.cst none else m)) fun m0=>rThen nd 10 0 l m0
def rIf (nd:PN→RG→Option RG):List PN→RG→Option RG
 | [c,t],m=>rB (nd c m) fun m1=>rB (rG (m1.add 8 0 0)) fun ma=>rB (nd t ma) fun m2=>rG (m2.land [m1.code.length])
 | [c,t,e],m=>rB (nd c m) fun m1=>rB (rG (m1.add 8 0 0)) fun ma=>rB (nd t ma) fun m2=>rB (rG ((m2.add 7 0 0).land [m1.code.length])) fun mb=>rB (nd e mb) fun m3=>rG (m3.land [m2.code.length])
 | _,_=>none
def rWhile (nd:PN→RG→Option RG):List PN→RG→Option RG
 | [c,t],m=>rB (rG { m with br:=[],nx:=[] }) fun m0=>rB (nd c m0) fun m1=>rB (rG (m1.add 8 0 0)) fun ma=>rB (nd t ma) fun m2=>rB (rG ((((m2.land m2.nx).tick).add 7 (m.code.length:Int) 0).land (m1.code.length :: m2.br))) fun m3=>rG { m3 with br:=m.br,nx:=m.nx }
 | _,_=>none
def rBrk (m:RG):Option RG:=rG { (m.add 7 0 0) with br:=m.br++[m.code.length] }
def rCnt (m:RG):Option RG:=rG { (m.add 7 0 0) with nx:=m.nx++[m.code.length] }
def rVar (sl:List Int) (m:RG):Option RG:=rB sl[m.sp]? fun k=>rG (({ m with sp:=m.sp+1 }:RG).add 2 k 0)
def rAnd (nd:PN→RG→Option RG):List PN→RG→Option RG
 | [p,q],m=>rB (nd p m) fun m1=>rB (rG (m1.add 8 0 0)) fun ma=>rB (nd q ma) fun m2=>rG ((m2.add 8 0 0).dec 1 0 [m1.code.length,m2.code.length])
 | _,_=>none
def rOr (nd:PN→RG→Option RG):List PN→RG→Option RG
 | [p,q],m=>rB (nd p m) fun m1=>rB (rG ((m1.add 6 16 0).add 8 0 0)) fun ma=>rB (nd q ma) fun m2=>rG (((m2.add 6 16 0).add 8 0 0).dec 0 1 [m1.code.length+1,m2.code.length+1])
 | _,_=>none
def rCall (nd:PN→RG→Option RG) (cl:List Int) (l:List PN) (m:RG):Option RG:=rB (rAll nd l m) fun m1=>rB cl[m1.cp]? fun k=>if 0≤k∧k≤1000000 then (if k < 1000 then rG (({ m1 with cp:=m1.cp+1 }:RG).tick.add 9 k (l.length:Int)) else if l.length=2 then rG (({ m1 with cp:=m1.cp+1 }:RG).add 5 (k - 1000) 0) else rG (({ m1 with cp:=m1.cp+1 }:RG).add 6 (k - 1000) 0)) else none
def rK (nd:PN→RG→Option RG) (sl cl:List Int) (x:PN) (m:RG):Option RG :=
  if x.k=1 then rLet nd sl x.l m
  else if x.k=8 then rThen nd 11 0 x.l m
  else if x.k=7 then rRet nd x.l m
  else if x.k=10 then rAll nd x.l m
  else if x.k=15 then rG (m.cst (some (.inl x.n)))
  else if x.k=16 then (if x.n=2 then rG (m.cst (some (.inr true))) else none)
  else if x.k=17 then (if x.s=⟨#[]⟩ then rG (m.cst (some (.inr false))) else none)
  else if x.k=18 then rG (m.cst none)
  else if x.k=19 then rVar sl m
  else if x.k=12 then rAnd nd x.l m
  else if x.k=13 then rOr nd x.l m
  else if x.k=20 then rCall nd cl x.l m
  else none
def rN (sl cl:List Int):Nat→PN→RG→Option RG
 | 0,_,_=>none
 | f+1,x,m=>if 1000000 < x.l.length then none else rK (rN sl cl f) sl cl x m
end
section
structure RHd where
 nm:ByteArray
 ps:Int
 lc:Int
 s0:Int
 sa:Option Addr
 sc:Nat
 la:Option Addr
 lcap:Nat
abbrev nsI (l:List Nat):List Value:=l.map (fun (j:Nat)=>Value.int .i64 (j:Int))
abbrev rgO (h:RHd) (sl cl:Nat) (cv kv:Value) (sp cp:Nat) (tk:Int) (bv nv:Value):Obj:=.cells #[.string h.nm,.int .i64 h.ps,.int .i64 h.lc,cv,kv,.int .i64 h.s0,.slice h.sa sl h.sc,.slice h.la cl h.lcap,.int .i64 (sp:Int),.int .i64 (cp:Int),.int .i64 tk,.bool false,bv,nv] 84 (0,0)
structure RS (g:Nat) (w:World) (h:RHd) (sl cl:List Int) (d:RG) (ka:Option Addr) (kc:Nat) (ca:Option Addr) (cc:Nat) (ba:Option Addr) (bc:Nat) (na:Option Addr) (nc:Nat):Prop where
 row:w.heap[g]? = some (rgO h sl.length cl.length (.slice ca d.cs.length cc) (.slice ka d.code.length kc) d.sp d.cp d.tk (.slice ba d.br.length bc) (.slice na d.nx.length nc))
 ok:w.ownsRow (g+1) 128 3 (.slice ka d.code.length kc) d.code.length (d.code.flatMap kiC)
 oc:w.ownsRow (g+1) 32 5 (.slice ca d.cs.length cc) d.cs.length (d.cs.flatMap V.rcC)
 ob:w.ownsRow (g+1) 3 1 (.slice ba d.br.length bc) d.br.length (nsI d.br)
 on:w.ownsRow (g+1) 3 1 (.slice na d.nx.length nc) d.nx.length (nsI d.nx)
 ap:V.obk ba=none∨V.obk ba≠V.obk na
 sl:RepO w (fun b=>b < g) sl h.sa
 cl:RepO w (fun b=>b < g) cl h.la
structure RF (g:Nat) (ba na:Option Addr) (w w':World):Prop where
 os:w'.os=w.os
 tape:w'.tape=w.tape
 output:w'.output=w.output
 size:w.heap.size≤w'.heap.size
 low:∀ b,b < g→w'.heap[b]? = w.heap[b]?
 typ:∀ b cs t fr,w.heap[b]? = some (.cells cs t fr)→b≠g→t≠128→t≠32→V.obk ba≠some b→V.obk na≠some b→w'.heap[b]? = some (.cells cs t fr)
def RNew (w:World) (a a':Option Addr):Prop:=V.obk a' = V.obk a∨V.obk a' = none∨∃ b,V.obk a' = some b∧w.heap.size≤b
variable {g:Nat} {w w' w2:World} {h:RHd} {sl cl:List Int} {d:RG} {ka ca ba na ba' na':Option Addr} {kc cc bc nc:Nat}
theorem RNew.refl (w:World) (a:Option Addr):RNew w a a:=Or.inl rfl
theorem RNew.trans {a a' a2:Option Addr} (x:RNew w a a') (y:RNew w' a' a2) (hs:w.heap.size≤w'.heap.size):RNew w a a2:=by
 rcases y with y | y | ⟨b,y,hb⟩
 ·rcases x with x | x | ⟨b,x,hb⟩
  ·exact Or.inl (y.trans x)
  ·exact Or.inr (Or.inl (y.trans x))
  ·exact Or.inr (Or.inr ⟨b,y.trans x,hb⟩)
 ·exact Or.inr (Or.inl y)
 ·exact Or.inr (Or.inr ⟨b,y,by omega⟩)
theorem RNew.no {a a':Option Addr} {b:Nat} (x:RNew w a a') (hb:b < w.heap.size) (h:V.obk a≠some b):V.obk a'≠some b:=by
 rcases x with x | x | ⟨b2,x,hb2⟩
 ·rw[x];exact h
 ·rw[x];exact fun e=>by cases e
 ·rw[x]
  intro e;injection e with e;omega
theorem RF.refl (g:Nat) (ba na:Option Addr) (w:World):RF g ba na w w:=⟨rfl,rfl,rfl,Nat.le_refl _,fun _ _=>rfl,fun _ _ _ _ h _ _ _ _ _=>h⟩
theorem RF.trans (x:RF g ba na w w') (y:RF g ba' na' w' w2) (h1:RNew w ba ba') (h2:RNew w na na'):RF g ba na w w2 :=
 ⟨y.os.trans x.os,y.tape.trans x.tape,y.output.trans x.output,Nat.le_trans x.size y.size,fun b hb=>(y.low b hb).trans (x.low b hb),fun b cs t fr hb k1 k2 k3 k4 k5=>y.typ b cs t fr (x.typ b cs t fr hb k1 k2 k3 k4 k5) k1 k2 k3 (h1.no (Array.getElem?_eq_some_iff.1 hb).1 k4) (h2.no (Array.getElem?_eq_some_iff.1 hb).1 k5)⟩
theorem RF.of (hg:g < w.heap.size) (k:Ext w w'):RF g ba na w w':=⟨k.os,k.tape,k.output,k.size,fun b hb=>k.block b (by omega),fun b cs t fr hb _ _ _ _ _=>(k.block b (Array.getElem?_eq_some_iff.1 hb).1).trans hb⟩
theorem RF.set (x:RF g ba na w w') (i:Nat) (v:Value):RF g ba na w (w'.setCell ⟨g,i,none⟩ v):=by
 refine⟨x.os,x.tape,x.output,by simpa [World.setCell] using x.size,fun b hb => ?_,fun b cs t fr hb h1 h2 h3 h4 h5 => ?_⟩
 ·rw[Below.heap_setCell _ _ _ _ (by show b≠g;omega)];exact x.low b hb
 ·rw[Below.heap_setCell _ _ _ _ (by show b≠g;exact h1)];exact x.typ b cs t fr hb h1 h2 h3 h4 h5
theorem RF.grow {wa w6:World} {e:TypeId} {size n:Nat} {v:Value} {xs:List Value} (ho:wa.ownsRow (g+1) e size v n xs) (he:e=128∨e=32∨v.ownBlock=V.obk ba∨v.ownBlock=V.obk na) (hg:g < wa.heap.size) (hgw:wa.grownBy w6 v.ownBlock):RF g ba na wa w6:=by
 refine⟨hgw.os,hgw.tape,hgw.output,hgw.size,fun b hb=>hgw.block b (by omega) (fun e=>by have:=(ho.lt b e.symm).1;omega),fun b cs t fr hb h1 h2 h3 h4 h5 => ?_⟩;refine(hgw.block b (Array.getElem?_eq_some_iff.1 hb).1 (fun e2 => ?_)).trans hb;rcases ho.2 with⟨rfl,_⟩ | ⟨b2,cap,cur,rfl,_,hrow,_⟩
 ·cases e2
 ·simp only[Value.ownBlock,Option.some.injEq] at e2
  subst e2;rw[hrow] at hb;injection hb with hb;injection hb with _ hb _;subst hb;rcases he with rfl | rfl | he | he
  ·exact h2 rfl
  ·exact h3 rfl
  ·exact h4 he.symm
  ·exact h5 he.symm
theorem RS.lt (x:RS g w h sl cl d ka kc ca cc ba bc na nc):g < w.heap.size:=(Array.getElem?_eq_some_iff.1 x.row).1
theorem RS.ext (x:RS g w h sl cl d ka kc ca cc ba bc na nc) (k:Ext w w'):RS g w' h sl cl d ka kc ca cc ba bc na nc:=by
 have hg:=x.lt;exact⟨(k.block g hg).trans x.row,own_extM x.ok k,own_extM x.oc k,own_extM x.ob k,own_extM x.on k,x.ap,x.sl.to (fun b hb=>⟨hb,k.block b (by omega)⟩),x.cl.to (fun b hb=>⟨hb,k.block b (by omega)⟩)⟩
theorem RS.put (x:RS g w h sl cl d ka kc ca cc ba bc na nc) (i:Nat) (v:Value) (d':RG) (h1:d'.code=d.code) (h2:d'.cs=d.cs) (h3:d'.br=d.br) (h4:d'.nx=d.nx) (hrow:(w.setCell ⟨g,i,none⟩ v).heap[g]? = some (rgO h sl.length cl.length (.slice ca d.cs.length cc) (.slice ka d.code.length kc) d'.sp d'.cp d'.tk (.slice ba d.br.length bc) (.slice na d.nx.length nc))):RS g (w.setCell ⟨g,i,none⟩ v) h sl cl d' ka kc ca cc ba bc na nc :=
 ⟨by rw[h1,h2,h3,h4];exact hrow,by rw[h1];exact ownsRow_setCell_below x.ok (Nat.lt_succ_self g) v,by rw[h2];exact ownsRow_setCell_below x.oc (Nat.lt_succ_self g) v,by rw[h3];exact ownsRow_setCell_below x.ob (Nat.lt_succ_self g) v,by rw[h4];exact ownsRow_setCell_below x.on (Nat.lt_succ_self g) v,x.ap,x.sl.to (fun b hb=>⟨hb,Below.heap_setCell _ _ _ _ (by show b≠g;omega)⟩),x.cl.to (fun b hb=>⟨hb,Below.heap_setCell _ _ _ _ (by show b≠g;omega)⟩)⟩
theorem RS.setTk (x:RS g w h sl cl d ka kc ca cc ba bc na nc) (c:Int):RS g (w.setCell ⟨g,10,none⟩ (.int .i64 c)) h sl cl { d with tk:=c } ka kc ca cc ba bc na nc:=x.put 10 _ { d with tk:=c } rfl rfl rfl rfl (row_set x.row 10 _)
theorem RS.setSp (x:RS g w h sl cl d ka kc ca cc ba bc na nc) (c:Nat):RS g (w.setCell ⟨g,8,none⟩ (.int .i64 (c:Int))) h sl cl { d with sp:=c } ka kc ca cc ba bc na nc:=x.put 8 _ { d with sp:=c } rfl rfl rfl rfl (row_set x.row 8 _)
theorem RS.setCp (x:RS g w h sl cl d ka kc ca cc ba bc na nc) (c:Nat):RS g (w.setCell ⟨g,9,none⟩ (.int .i64 (c:Int))) h sl cl { d with cp:=c } ka kc ca cc ba bc na nc:=x.put 9 _ { d with cp:=c } rfl rfl rfl rfl (row_set x.row 9 _)
theorem rep_growR {wa w6:World} {v:Value} {e:TypeId} {size n:Nat} {xs:List Value} {l:List Int} {a:Option Addr} (ho:wa.ownsRow (g+1) e size v n xs) (hgw:wa.grownBy w6 v.ownBlock) (hg:g < wa.heap.size) (x:RepO wa (fun b=>b < g) l a):RepO w6 (fun b=>b < g) l a :=
 x.to (fun b hb=>⟨hb,hgw.block b (by omega) (fun e=>by have:=(ho.lt b e.symm).1;omega)⟩)
theorem RS.pushK {wa w6:World} {g' cap':Nat} {i:KI} (x:RS g wa h sl cl d ka kc ca cc ba bc na nc) (ho:w6.ownsRow (g+1) 128 3 (.slice (some ⟨g',0,none⟩) (d.code.length+1) cap') (d.code.length+1) (d.code.flatMap kiC++kiC i)) (hgw:wa.grownBy w6 (Value.slice ka d.code.length kc).ownBlock) :
  RS g (w6.setCell ⟨g,4,none⟩ (.slice (some ⟨g',0,none⟩) (d.code.length+1) cap')) h sl cl { d with code:=d.code++[i] } (some ⟨g',0,none⟩) cap' ca cc ba bc na nc∧RF g ba na wa (w6.setCell ⟨g,4,none⟩ (.slice (some ⟨g',0,none⟩) (d.code.length+1) cap')):=by
 have hg:=x.lt;have c1:=x.oc.kept hgw (own_twoM x.oc x.ok (by decide));have c2:=x.ob.kept hgw (own_twoM x.ob x.ok (by decide));have c3:=x.on.kept hgw (own_twoM x.on x.ok (by decide));have hr:=row_growM x.ok hgw x.row;have hl:(d.code++[i]).length=d.code.length+1:=by simp
 refine⟨⟨?_,?_,ownsRow_setCell_below c1 (Nat.lt_succ_self g) _,ownsRow_setCell_below c2 (Nat.lt_succ_self g) _,ownsRow_setCell_below c3 (Nat.lt_succ_self g) _,x.ap,(rep_growR x.ok hgw hg x.sl).to (fun b hb=>⟨hb,Below.heap_setCell _ _ _ _ (by show b≠g;omega)⟩),(rep_growR x.ok hgw hg x.cl).to (fun b hb=>⟨hb,Below.heap_setCell _ _ _ _ (by show b≠g;omega)⟩)⟩,(RF.grow x.ok (Or.inl rfl) hg hgw).set 4 _⟩
 ·have:=row_set hr 4 (.slice (some ⟨g',0,none⟩) (d.code.length+1) cap')
  rw[hl];exact this
 ·rw[List.flatMap_append,hl]
  exact ownsRow_setCell_below (by simpa using ho) (Nat.lt_succ_self g) _
theorem rg_c {h:RHd} {sl cl:Nat} {cv kv:Value} {sp cp:Nat} {tk:Int} {bv nv:Value} (x:w.heap[g]? = some (rgO h sl cl cv kv sp cp tk bv nv)):w.cell? ⟨g,3,none⟩=some cv∧w.cell? ⟨g,4,none⟩=some kv∧w.cell? ⟨g,6,none⟩=some (.slice h.sa sl h.sc)∧w.cell? ⟨g,7,none⟩=some (.slice h.la cl h.lcap)∧w.cell? ⟨g,8,none⟩=some (.int .i64 (sp:Int))∧w.cell? ⟨g,9,none⟩=some (.int .i64 (cp:Int))∧w.cell? ⟨g,10,none⟩=some (.int .i64 tk)∧w.cell? ⟨g,11,none⟩=some (.bool false)∧w.cell? ⟨g,12,none⟩=some bv∧w.cell? ⟨g,13,none⟩=some nv∧∀ i,w.frozen? ⟨g,i,none⟩=false :=
 ⟨zr x 3 rfl,zr x 4 rfl,zr x 6 rfl,zr x 7 rfl,zr x 8 rfl,zr x 9 rfl,zr x 10 rfl,zr x 11 rfl,zr x 12 rfl,zr x 13 rfl,fun i=>rowF x i⟩
def RGAns (g:Nat) (w:World) (h:RHd) (sl cl:List Int) (d:RG) (ba na:Option Addr) (w':World):Prop:=∃ ka kc ca cc ba' bc na' nc,RS g w' h sl cl d ka kc ca cc ba' bc na' nc∧RF g ba na w w'∧RNew w ba ba'∧RNew w na na'
end
section
variable {g:Nat} {w w' w2:World} {h:RHd} {sl cl:List Int} {d:RG} {ka ca ba na ba' na':Option Addr} {kc cc bc nc:Nat}
theorem radd_m (x:RS g w h sl cl d ka kc ca cc ba bc na nc) (hb:d.code.length≤100000) (op a b:Int):Calls Tryz.prog 18 #[.pointer (some ⟨g,0,none⟩),.int .i64 op,.int .i64 a,.int .i64 b] w fun e w'=>e = .returned (.int .i64 (d.code.length:Int))∧RGAns g w h sl cl (d.add op a b) ba na w':=by
 have H:=zh x;have hg:=x.lt;have HA:=zh (fun ob=>x.ext (Ext.alloc w ob));obtain⟨c3,c4,c6,c7,c8,c9,c10,c11,c12,c13,zf⟩:=rg_c x.row;obtain⟨i0,hi,hz0,hz1,hz2⟩:=info_parts infoK;have HI:=zh hi;have Z0:=zh hz0;have Z1:=zh hz1;have Z2:=zh hz2;clear hi hz0 hz1 hz2 x;unfold RG.add
 go_enter Tryz.func18,Tryz.ntmps18
 go_wp2_with (at_builtin;refine wpList_append_where rfl (.tmp 14) (.tmp 19) 80 rfl (g+1) 128 i0 (.agg #[.int .i64 0,.int .i64 0,.int .i64 0]) 3 24 Tryz.underlying80 (zu HI) (zu Z0) (zu Z1) (zu Z2) rfl (by decide) ka d.code.length kc (d.code.flatMap kiC) rfl (zu HA _).ok ⟨w.heap.size,0,none⟩ 1 1 (kiC ⟨op,a,b⟩) rfl (by decide) rfl (cells_new w _ _) (one_ki _) ?c1 ?c2 ?c3 ?_)
 case c1=>unfold maxLen;omega
 case c2=>omega
 case c3=>simp;omega
 intro g2 cap6 w6 ho6 hg6 hw6;have hP:=RS.pushK (i:=⟨op,a,b⟩) (zu HA _) ho6 hg6;have hrow6:=row_growM (zu HA _).ok hg6 (zu HA _).row;obtain⟨z3,z4,z6,z7,z8,z9,z10,z11,z12,z13,zzf⟩:=rg_c hrow6;have HP:=zh hP;clear hP hrow6 ho6 hg6 hw6 c3 c4 c6 c7 c8 c9 c10 c11 c12 c13 zf
 go_wp2_with fail
 go_ret;exact⟨rfl,_,_,_,_,_,_,_,_,(zu HP).1,(RF.of hg (Ext.alloc _ _)).trans (zu HP).2 (RNew.refl _ _) (RNew.refl _ _),RNew.refl _ _,RNew.refl _ _⟩
def RDone (g:Nat) (w:World) (h:RHd) (sl cl:List Int) (d:RG) (ba na:Option Addr) (e:Ending) (w':World):Prop:=e = .returned (.tuple #[])∧RGAns g w h sl cl d ba na w'
theorem RGAns.on {d':RG} {w1:World} (x:RF g ba na w w1) (y:RGAns g w1 h sl cl d' ba na w2):RGAns g w h sl cl d' ba na w2:=by
 obtain⟨ka,kc,ca,cc,ba',bc,na',nc,s,f,n1,n2⟩:=y;exact⟨ka,kc,ca,cc,ba',bc,na',nc,s,x.trans f (RNew.refl _ _) (RNew.refl _ _),(RNew.refl w ba).trans n1 x.size,(RNew.refl w na).trans n2 x.size⟩
theorem rtick_m (x:RS g w h sl cl d ka kc ca cc ba bc na nc) (hb:d.code.length≤100000) (ht:0≤d.tk∧d.tk≤1000000):Calls Tryz.prog 68 #[.pointer (some ⟨g,0,none⟩)] w (RDone g w h sl cl d.tick ba na):=by
 obtain⟨c3,c4,c6,c7,c8,c9,c10,c11,c12,c13,zf⟩:=rg_c x.row;have x1:=x.setTk (d.tk+1);have HA:=zh (radd_m x1 hb 12 (d.tk+1) 0);have HF:Hd (RF g ba na w (w.setCell ⟨g,10,none⟩ (.int .i64 (d.tk+1)))):=(RF.refl g ba na w).set 10 _;have c10b:=(rg_c x1.row).2.2.2.2.2.2.1;simp only at c10b;clear x x1
 go_enter Tryz.func68,Tryz.ntmps68
 go_wp2_with (go_at_call 18;refine Calls.mono (zu HA) ?_;rintro e w1 ⟨rfl,hr⟩;have R1:=zh hr;clear hr)
 go_end0
 exact⟨rfl,RGAns.on (zu HF) (zu R1)⟩
theorem rslot_m (x:RS g w h sl cl d ka kc ca cc ba bc na nc) (hb:d.sp≤100000) (k:Int) (hk:sl[d.sp]? = some k):Calls Tryz.prog 41 #[.pointer (some ⟨g,0,none⟩)] w fun e w'=>e = .returned (.int .i64 k)∧RGAns g w h sl cl { d with sp:=d.sp+1 } ba na w':=by
 obtain⟨c3,c4,c6,c7,c8,c9,c10,c11,c12,c13,zf⟩:=rg_c x.row;have x1:=x.setSp (d.sp+1);have HX:=zh x1;have HF:Hd (RF g ba na w (w.setCell ⟨g,8,none⟩ (.int .i64 ((d.sp+1:Nat):Int)))):=(RF.refl g ba na w).set 8 _;obtain⟨d3,d4,d6,d7,d8,d9,d10,d11,d12,d13,dzf⟩:=rg_c x1.row;simp only at d8;have hlt:d.sp < sl.length:=(List.getElem?_eq_some_iff.1 hk).1;obtain⟨b,o,e1,hb1,hc1⟩:∃ b o,h.sa=some ⟨b,o,none⟩∧b < g∧(w.setCell ⟨g,8,none⟩ (.int .i64 ((d.sp+1:Nat):Int))).cell? ⟨b,o+d.sp,none⟩=some (.int .i64 k):=by
  rcases x1.sl with h0 | ⟨b,o,h1,h2,h3⟩
  ·rw[h0] at hk;simp at hk
  ·exact⟨b,o,h1,h2,h3 d.sp k hk⟩
 rw[e1] at d6 c6;have hsp:((d.sp+1:Nat):Int)=(d.sp:Int)+1:=by omega
 rw[hsp] at d6 d8 hc1 HX HF;have HE1:=zh e1;clear x x1 hk d3 d4 d7 d9 d10 d11 d12 d13 e1 hsp;obtain⟨Wn,hWn⟩:∃ Wn,Wn=w.setCell ⟨g,8,none⟩ (.int .i64 ((d.sp:Int)+1)):=⟨_,rfl⟩;rw[← hWn] at d6 d8 hc1 HX HF;have HWn:=zh hWn;clear hWn dzf
 go_enter Tryz.func41,Tryz.ntmps41
 go_wp2_with fail
 rw[← zu HWn];have hne:Nonempty (RGw Wn):=⟨⟨Wn,Ext.refl _⟩⟩;have y6:∀ y:RGw Wn,y.w.cell? ⟨g,6,none⟩=some (.slice (some ⟨b,o,none⟩) sl.length h.sc):=fun y=>y.h.cell d6;have y8:∀ y:RGw Wn,y.w.cell? ⟨g,8,none⟩=some (.int .i64 ((d.sp:Int)+1)):=fun y=>y.h.cell d8;have yk:∀ y:RGw Wn,y.w.cell? ⟨b,o+d.sp,none⟩=some (.int .i64 k):=fun y=>y.h.cell hc1;refine wp_region_rx (W:=Wn) (by kernel_rfl) (by kernel_rfl) (Ext.refl _) ?_
 repeat (go_big_quiet_step (fail))
 refine wpQuiet_nil ?_;rintro w4 ⟨⟨_,hx4⟩,rfl⟩;have X4:=zh hx4;clear hx4
 go_wp2_with fail
 go_ret;exact⟨rfl,_,_,_,_,_,_,_,_,(zu HX).ext (zu X4),(zu HF).trans (RF.of (zu HX).lt (zu X4)) (RNew.refl _ _) (RNew.refl _ _),RNew.refl _ _,RNew.refl _ _⟩
end
section
variable {g:Nat} {w w' w2:World} {d:GM} {sv lp:Value}
theorem kiC_set:∀ (l:List KI) (j:Nat) (i:KI) (a:Int),l[j]? = some i→(l.flatMap kiC).set (j * 3+1) (.int .i64 a)=(l.set j ⟨i.op,a,i.b⟩).flatMap kiC
 | [],j,i,a,h=>by simp at h
 | x :: l,0,i,a,h=>by
  obtain rfl:x=i:=by simpa using h
  rfl
 | x :: l,j+1,i,a,h=>by
  have ih:=kiC_set l j i a (by simpa using h);rw[List.set_cons_succ,List.flatMap_cons,List.flatMap_cons,← ih,show (j+1) * 3+1=(j * 3+1)+3 by omega];rfl
theorem kiC_at:∀ (l:List KI) (j:Nat) (i:KI),l[j]? = some i→(l.flatMap kiC)[j * 3]? = some (.int .i64 i.op)∧(l.flatMap kiC)[j * 3+1]? = some (.int .i64 i.a)∧(l.flatMap kiC)[j * 3+2]? = some (.int .i64 i.b)
 | [],j,i,h=>by simp at h
 | x :: l,0,i,h=>by
  obtain rfl:x=i:=by simpa using h
  exact⟨rfl,rfl,rfl⟩
 | x :: l,j+1,i,h=>by
  have ih:=kiC_at l j i (by simpa using h);rw[List.flatMap_cons,show (j+1) * 3=j * 3+3 by omega];exact ih
end
section
variable {g:Nat} {w w' w2:World} {h:RHd} {sl cl:List Int} {d:RG} {ka ca ba na ba' na':Option Addr} {kc cc bc nc:Nat}
def NumAt (w:World) (l:List Nat) (a:Option Addr):Prop:=l = []∨∃ b cs fr,a=some ⟨b,0,none⟩∧w.heap[b]? = some (.cells cs 3 fr)∧∀ (j x:Nat),l[j]? = some x→cs[j]? = some (.int .i64 (x:Int))
theorem NumAt.at {l:List Nat} {a:Option Addr} (x:NumAt w l a) {j y:Nat} (hy:l[j]? = some y):∃ b,a=some ⟨b,0,none⟩∧w.cell? ⟨b,j,none⟩=some (.int .i64 (y:Int)):=by
 rcases x with x | ⟨b,cs,fr,e,hr,hc⟩
 ·rw[x] at hy;simp at hy
 ·exact⟨b,e,by rw[cell_of_row w b j cs 3 fr hr];exact hc j y hy⟩
theorem NumAt.ext {l:List Nat} {a:Option Addr} (x:NumAt w l a) (k:Ext w w'):NumAt w' l a:=by
 rcases x with x | ⟨b,cs,fr,e,hr,hc⟩
 ·exact Or.inl x
 ·exact Or.inr ⟨b,cs,fr,e,(k.block b (Array.getElem?_eq_some_iff.1 hr).1).trans hr,hc⟩
theorem RS.lead {j:Nat} {i:KI} (x:RS g w h sl cl d ka kc ca cc ba bc na nc) (hi:d.code[j]? = some i) (N:Int):∃ b,ka=some ⟨b,0,none⟩∧d.code.length≤kc∧w.cell? ⟨b,j * 3+1,none⟩=some (.int .i64 i.a)∧w.frozen? ⟨b,j * 3+1,none⟩=false ∧
  RS g (w.setCell ⟨b,j * 3+1,none⟩ (.int .i64 N)) h sl cl { d with code:=ld1 d.code N j } ka kc ca cc ba bc na nc∧RF g ba na w (w.setCell ⟨b,j * 3+1,none⟩ (.int .i64 N))∧∀ (q:Nat),(∀ (cs:Array Value) fr,w.heap[q]?≠some (Obj.cells cs 128 fr))→(w.setCell ⟨b,j * 3+1,none⟩ (.int .i64 N)).heap[q]? = w.heap[q]?:=by
 have hlt:=(List.getElem?_eq_some_iff.1 hi).1;have hd:ld1 d.code N j=d.code.set j ⟨i.op,N,i.b⟩:=by unfold ld1;rw[hi]
 rcases id x.ok.2 with⟨e,e0⟩ | ⟨b,cap,cur,e,hb,hg,hn,_⟩
 ·exfalso;omega
 ·injection e with e1 e2 e3
  subst e1 e3;obtain⟨_,k1,_⟩:=kiC_at d.code j i hi;have k1:=x.ok.cells (g:=b) rfl _ _ k1;have hlen:(ld1 d.code N j).length=d.code.length:=by rw[hd];simp
  have hkeep:∀ (q:Nat),(∀ (cs:Array Value) fr,w.heap[q]?≠some (Obj.cells cs 128 fr))→(w.setCell ⟨b,j * 3+1,none⟩ (.int .i64 N)).heap[q]? = w.heap[q]?:=fun q hq=>Below.heap_setCell _ _ _ _ (fun e=>by
   have e:q=b:=by first | exact e | exact e.symm
   subst e;exact hq _ _ hg)
  have hrow:(w.setCell ⟨b,j * 3+1,none⟩ (.int .i64 N)).heap[g]? = w.heap[g]?:=Below.heap_setCell _ _ _ _ (by show g≠b;omega);have hk:∀ {e:TypeId} {size n:Nat} {v:Value} {xs:List Value},w.ownsRow (g+1) e size v n xs→e≠128→(w.setCell ⟨b,j * 3+1,none⟩ (.int .i64 N)).ownsRow (g+1) e size v n xs:=fun ho hne=>by
   rcases own_twoM ho x.ok hne with hq | hq
   ·exact own_keepM ho (fun q hq2=>by rw[hq] at hq2;cases hq2)
   ·exact own_keepM ho (fun q hq2=>Below.heap_setCell _ _ _ _ (fun e3=>hq (by rw[hq2];simp[Value.ownBlock];first | exact e3 | exact e3.symm)))
  refine⟨b,rfl,hn,by simpa [Addr.add] using k1,rowF hg _,⟨?_,?_,hk x.oc (by decide),hk x.ob (by decide),hk x.on (by decide),x.ap,x.sl.to (fun q hq=>⟨hq,Below.heap_setCell _ _ _ _ (by show q≠b;omega)⟩),x.cl.to (fun q hq=>⟨hq,Below.heap_setCell _ _ _ _ (by show q≠b;omega)⟩)⟩,⟨rfl,rfl,rfl,by simp[World.setCell],fun q hq=>Below.heap_setCell _ _ _ _ (by show q≠b;omega),fun q cs t fr hq _ h2 _ _ _ => ?_⟩,hkeep⟩
  ·show (w.setCell _ _).heap[g]? = some (rgO h sl.length cl.length _ (.slice _ (ld1 d.code N j).length _) _ _ _ _ _)
   rw[hrow,hlen];exact x.row
  ·show (w.setCell _ _).ownsRow (g+1) 128 3 (.slice _ (ld1 d.code N j).length _) (ld1 d.code N j).length ((ld1 d.code N j).flatMap kiC)
   have:=own_setM x.ok (j * 3+1) (.int .i64 N);rw[kiC_set d.code j i _ hi] at this;rw[hlen,hd];exact this
  ·refine(hkeep q (fun cs2 fr2 e => ?_)).trans hq
   rw[hq] at e;injection e with e;injection e with _ e _;exact h2 e
theorem ld1_len (c:List KI) (N:Int) (j:Nat):(ld1 c N j).length=c.length:=by
 unfold ld1
 split <;> simp
def ldK (c:List KI) (N:Int) (l:List Nat):List KI:=l.foldl (fun c j=>ld1 c N j) c
theorem ldK_len (N:Int):∀ (l:List Nat) (c:List KI),(ldK c N l).length=c.length:=by
 intro l
 induction l with
 | nil=>intro c;rfl
 | cons j l ih=>intro c;show (ldK (ld1 c N j) N l).length=_;rw[ih,ld1_len]
theorem ldK_snoc (c:List KI) (N:Int) (l:List Nat) (j:Nat):ldK c N (l++[j])=ld1 (ldK c N l) N j:=by
 unfold ldK;rw[List.foldl_append];rfl
theorem rland_m (x:RS g w h sl cl d ka kc ca cc ba bc na nc) (hb:d.code.length≤100000) (l:List Nat) (la:Option Addr) (lc:Nat) (hl:∀ j ∈ l,j < d.code.length) (hla:NumAt w l la) (hll:l.length≤100000):Calls Tryz.prog 42 #[.pointer (some ⟨g,0,none⟩),.slice la l.length lc] w (RDone g w h sl cl (d.land l) ba na):=by
 have HL:=zh hl;have HX0:Hd (RS g w h sl cl { d with code:=ldK d.code (d.code.length:Int) (l.take 0) } ka kc ca cc ba bc na nc):=x;have HN0:=zh hla;clear x hl hla;generalize hN:d.code.length=N at *;generalize hLL:l.length=M at *
 go_enter Tryz.func42,Tryz.ntmps42
 go_wp2_with fail
 go_loopw [4] (fun t wr => ∃ (k:Nat),t = .int .i64 k∧k≤M∧Hd (RS g wr h sl cl { d with code:=ldK d.code (N:Int) (l.take k) } ka kc ca cc ba bc na nc)∧Hd (RF g ba na w wr)∧Hd (NumAt wr l la)) (fun t _=>M - (intOf t).toNat)
 case atStart=>exact⟨0,rfl,by omega,HX0,RF.refl _ _ _ _,HN0⟩
 case round =>
  clear HX0 HN0;obtain⟨k,rfl,hk,hX,hF,hNu⟩:=hrel;by_cases hlt:k < M
  ·have hlt2:(k:Int) < (M:Int):=by omega
   obtain⟨j,hj⟩:∃ j,l[k]? = some j:=⟨_,List.getElem?_eq_getElem (by omega)⟩;have hjl:=zu HL j (List.mem_of_getElem? hj);obtain⟨lb,rfl,cj⟩:=(zu hNu).at hj;have hlenk:=ldK_len (N:Int) (l.take k) d.code;rw[hN] at hlenk;have XD:Ext wr (World.drew wr):=Ext.drew (Ext.refl wr);have x0:=zu hX;obtain⟨i,hi⟩:∃ i,(ldK d.code (N:Int) (l.take k))[j]? = some i:=⟨_,List.getElem?_eq_getElem (by omega)⟩;obtain⟨b,e1,hn,k1,kf,HS,HF2,hkp⟩:=(x0.ext XD).lead hi (N:Int);subst e1;have c4:=(rg_c x0.row).2.1;simp only at c4;rw[hlenk] at c4;have HS2:Hd (RS g ((World.drew wr).setCell ⟨b,j * 3+1,none⟩ (.int .i64 (N:Int))) h sl cl { d with code:=ldK d.code (N:Int) (l.take (k+1)) } (some ⟨b,0,none⟩) kc ca cc ba bc na nc):=by
    unfold Hd;have ht:l.take (k+1)=l.take k++[j]:=by
     rw[List.take_add_one,hj];rfl
    rw[ht,ldK_snoc];exact HS
   have HF3:Hd (RF g ba na w ((World.drew wr).setCell ⟨b,j * 3+1,none⟩ (.int .i64 (N:Int)))):=((zu hF).trans (RF.of x0.lt XD) (RNew.refl _ _) (RNew.refl _ _)).trans HF2 (RNew.refl _ _) (RNew.refl _ _);have HN3:Hd (NumAt ((World.drew wr).setCell ⟨b,j * 3+1,none⟩ (.int .i64 (N:Int))) l (some ⟨lb,0,none⟩)):=by
    rcases (zu hNu).ext XD with h9 | ⟨b9,cs9,fr9,e9,hr9,hc9⟩
    ·rw[h9] at hj;simp at hj
    ·refine Or.inr ⟨b9,cs9,fr9,e9,(hkp b9 (fun cs2 fr2 e => ?_)).trans hr9,hc9⟩
     rw[hr9] at e;injection e with e;injection e with _ e _;exact absurd e (by decide)
   have hj2:(j:Int) < (N:Int):=by omega
   clear HS HF2 hkp hi x0 hX hF hNu hj hlenk
   go_wp2_with fail
   go_still_tail 15,(by kernel_rfl)
   change wpList _ _ _ _ _ (World.drew wr)
   go_wp2_with fail
   go_roundw
   case rel=>exact⟨k+1,by go_num,by omega,HS2,HF3,HN3⟩
   case measure=>simp[intOf];omega
  ·have hkf:¬ (k:Int) < (M:Int):=by omega
   have hkM:k=M:=by omega
   have hS:=zu hX;rw[hkM,← hLL,List.take_length] at hS;have HS:=zh hS;clear hS hX hlt hk
   go_wp2_with fail
   go_end0
   have hD:d.land l = { d with code:=ldK d.code (N:Int) l }:=by
    unfold RG.land;rw[hN];rfl
   rw[hD];exact⟨rfl,ka,kc,ca,cc,ba,bc,na,nc,zu HS,zu hF,RNew.refl _ _,RNew.refl _ _⟩
end
end Go.Proofs.YtjnpehohialmbaaGreat
