/- Words between quotes. -/
import Derived.OwnWalk
import Derived.Laws.BytesString
import Derived.Test.YtjnpehohialmbaaGreatZs1
set_option linter.unusedSimpArgs false
set_option linter.unusedVariables false
set_option maxRecDepth 10000
namespace Go.Proofs.YtjnpehohialmbaaGreat
open Go.RowKit
section
def B (c:UInt8):Value:=.int .u8 c.toNat
def txF:Nat→List UInt8→Option (List UInt8 × Nat)
 | 0,_=>none
 | _+1,[]=>none
 | f+1,c :: r=>if c.toNat=10 then none else if c.toNat=34 then some ([],1) else if (sg (c :: r)).2=0 then none
   else (txF f ((c :: r).drop (sg (c :: r)).2)).map fun p=>((sg (c :: r)).1 :: p.1,(sg (c :: r)).2+p.2)
theorem sg_le (l:List UInt8):(sg l).2≤l.length:=by
 match l with
 | []=>exact Nat.le_refl _
 | [c]=>rw[sg];split <;> simp
 | c :: d :: r=>rw[sg];split <;> (try split) <;> (try split) <;> simp
def textT (s:ByteArray) (o:Nat):Option (Int × ByteArray × Int × Nat) :=
 (txF (s.size+1) ((L s).drop (o+1))).map fun p=>(5,⟨p.1.toArray⟩,0,o+1+p.2)
end
section
def tokT (s:ByteArray) (o:Nat):Option (Int × ByteArray × Int × Nat) :=
 match (L s)[o]? with
 | none=>none
 | some c=>if dg c then numT s o else if nm c then nameT s o else if c.toNat=34 then textT s o else opT s o
theorem txF_pos:∀ (f:Nat) (l:List UInt8) (p:List UInt8 × Nat),txF f l=some p→1≤p.2∧p.2≤l.length:=by
 intro f
 induction f with
 | zero=>intro l p h;simp[txF] at h
 | succ f ih =>
  intro l p h;cases l with
  | nil=>simp[txF] at h
  | cons c r =>
   rw[txF] at h
   split at h
   ·cases h
   ·split at h
    ·cases h;simp
    ·split at h
     ·cases h
     ·obtain⟨q,hq,rfl⟩:=Option.map_eq_some_iff.1 h
      have:=ih _ _ hq;have h2:=sg_le (c :: r);rw[List.length_drop] at this;simp only[] at *;omega
theorem tok_lt (s:ByteArray) (o:Nat) (k:Int) (t:ByteArray) (n:Int) (m:Nat) (h:tokT s o=some (k,t,n,m)):o < m∧m≤s.size:=by
 unfold tokT at h;by_cases ho:o < s.size
 ·rw[L_get s o ho] at h
  replace h:(if dg s[o]=true then _ else _)=_:=h
  cases hd:dg s[o] with
  | true =>
   rw[hd,if_pos rfl] at h;have h1:=(num_digits s o ho hd).1;have h2:=nd_le s o;unfold numT at h
   split at h
   ·cases h
   ·split at h
    ·rename_i hi
     split at h
     ·cases h
     ·cases h
      by_cases hj:o+nd s o < s.size
      ·omega
      ·rw[isI_end s _ (by omega)] at hi;cases hi
    ·split at h
     ·cases h
     ·cases h;omega
  | false =>
   rw[hd,if_neg (by decide)] at h;cases hn:nm s[o] with
   | true =>
    rw[hn,if_pos rfl] at h;have h1:1≤run nm ((L s).drop o):=by rw[L_drop s o ho];exact run_pos hn
    have h2:=run_le nm ((L s).drop o);rw[List.length_drop,L_len] at h2;unfold nameT at h
    split at h
    ·cases h
    ·cases h;omega
   | false =>
    rw[hn,if_neg (by decide)] at h
    split at h
    ·unfold textT at h
     obtain⟨q,hq,e⟩:=Option.map_eq_some_iff.1 h;cases e;have:=txF_pos _ _ _ hq;rw[List.length_drop,L_len] at this;omega
    ·unfold opT at h
     have h2:=opL_le ((L s).drop o);rw[List.length_drop,L_len] at h2
     split at h
     ·cases h
     ·cases h;omega
 ·rw[List.getElem?_eq_none (by rw[L_len];omega)] at h
  cases h
structure Tk where
 k:Int
 t:ByteArray
 n:Int
 o:Nat
def tkC (x:Tk):List Value:=[.int .i64 x.k,.string x.t,.int .i64 x.n,.int .i64 x.o]
def lexF:Nat→ByteArray→Nat→List Tk × Option Nat
 | 0,_,_=>([],some 0)
 | f+1,s,o=>if s.size≤o+skp false ((L s).drop o) then ([],none) else
   match tokT s (o+skp false ((L s).drop o)) with
   | none=>([],some (o+skp false ((L s).drop o)))
   | some (k,t,n,m)=>(⟨k,t,n,o+skp false ((L s).drop o)⟩ :: (lexF f s m).1,(lexF f s m).2)
end
section
theorem add0 (g j:Nat):(⟨g,0,none⟩:Addr).add j=⟨g,j,none⟩:=by unfold Addr.add;split <;> simp_all
theorem cells_new (w:World) (cs:Array Value) (t:TypeId):∀ j u,cs.toList[j]? = some u→(w.alloc (.cells cs t)).cell? ((⟨w.heap.size,0,none⟩:Addr).add j)=some u:=by
 intro j u hu;rw[add0];exact cell_box w cs t j (by simpa using hu)
theorem size_alloc (w:World) (o:Obj):(w.alloc o).heap.size=w.heap.size+1:=Array.size_push ..
theorem cells_new2 (w:World) (o:Obj) (cs:Array Value) (t:TypeId):∀ j u,cs.toList[j]? = some u→((w.alloc o).alloc (.cells cs t)).cell? ((⟨w.heap.size+1,0,none⟩:Addr).add j)=some u:=by
 have:=cells_new (w.alloc o) cs t;rw[size_alloc] at this;exact this
theorem ext_grown {a b:World} {r:Option Nat} (h:Ext a b):a.grownBy b r:=⟨h.os,h.tape,h.output,h.size,fun k hk _=>h.block k hk⟩
theorem own_ext {a b:World} {base:Nat} {e:TypeId} {size:Nat} {v:Value} {n:Nat} {xs:List Value} (h:a.ownsRow base e size v n xs) (k:Ext a b):b.ownsRow base e size v n xs :=
 h.kept (ext_grown (r:=none) k) (by cases v.ownBlock with | none=>exact Or.inl rfl | some x=>exact Or.inr (by simp))
end
section
structure PN where
 k:Int
 o:Int
 s:ByteArray
 n:Int
 l:List PN
abbrev zE:ByteArray:=⟨#[]⟩
def nodeZ:PN:=⟨0,0,zE,0,[]⟩
def tkZ:Tk:=⟨0,zE,0,0⟩
structure PS where
 ts:List Tk
 op:Int
 pl:Int
 e:Int
def hdT (ts:List Tk) (i:Nat):Tk:=(ts[i]?).getD tkZ
def PS.here (st:PS) (len:Nat):Int:=match st.ts with
 | []=>len
 | t :: _=>t.o
def PS.fail (st:PS) (len:Nat) (c:Int):PS:=if st.e=0 then ⟨[],st.op,st.here len,c⟩ else ⟨[],st.op,st.pl,st.e⟩
def PS.next (st:PS):PS:=⟨st.ts.tail,st.op,st.pl,st.e⟩
def isT (t:Tk) (k:Int) (s:ByteArray):Bool:=(t.k == k) && (t.t.toList == s.toList)
def PS.isS (st:PS) (s:ByteArray):Bool:=isT (hdT st.ts 0) 6 s
def PS.isW (st:PS) (s:ByteArray):Bool:=isT (hdT st.ts 0) 2 s
def PS.takeS (st:PS) (s:ByteArray):Bool × PS:=if st.isS s then (true,st.next) else (false,st)
def PS.takeW (st:PS) (s:ByteArray):Bool × PS:=if st.isW s then (true,st.next) else (false,st)
def PS.sign (st:PS) (len:Nat) (s:ByteArray):PS:=if st.isS s then st.next else st.fail len 10
def PS.word (st:PS) (len:Nat) (s:ByteArray):PS:=if st.isW s then st.next else st.fail len 10
def PS.name (st:PS) (len:Nat):ByteArray × PS:=if (hdT st.ts 0).k=1 then ((hdT st.ts 0).t,st.next) else (zE,st.fail len 10)
def PS.up (st:PS):PS:=⟨st.ts,wrap64 (st.op+1),st.pl,st.e⟩
def PS.enter (st:PS) (len:Nat):PS:=if 24 < wrap64 (st.op+1) then st.up.fail len 21 else st.up
def PS.leave (st:PS):PS:=⟨st.ts,wrap64 (st.op - 1),st.pl,st.e⟩
structure Opr where
 s:ByteArray
 lv:Int
 k:Int
 o:Int
def oprs:List Opr:=[⟨⟨#[124,124]⟩,1,13,0⟩,⟨⟨#[38,38]⟩,2,12,0⟩,⟨⟨#[61,61]⟩,3,11,6⟩,⟨⟨#[33,61]⟩,3,11,7⟩,⟨⟨#[60]⟩,3,11,8⟩,⟨⟨#[60,61]⟩,3,11,9⟩,⟨⟨#[62]⟩,3,11,10⟩,⟨⟨#[62,61]⟩,3,11,11⟩,
 ⟨⟨#[43]⟩,4,11,1⟩,⟨⟨#[45]⟩,4,11,2⟩,⟨⟨#[42]⟩,5,11,3⟩,⟨⟨#[47]⟩,5,11,4⟩,⟨⟨#[37]⟩,5,11,5⟩,⟨⟨#[45]⟩,6,14,15⟩,⟨⟨#[33]⟩,6,14,16⟩,⟨⟨#[91]⟩,7,11,12⟩]
def opHit (lv:Int) (s:ByteArray) (o:Opr):Bool:=(o.lv == lv) && (o.s.toList == s.toList)
def atLv (lv:Int) (s:ByteArray):Option Opr:=oprs.find? (opHit lv s)
def PS.oper (st:PS) (lv:Int):Option Opr:=if (hdT st.ts 0).k=6 then atLv lv (hdT st.ts 0).t else none
def PS.takeO (st:PS) (lv:Int):Option Opr × PS:=match st.oper lv with
 | some o=>(some o,st.next)
 | none=>(none,st)
def Opr.node (o:Opr) (l:List PN):PN:=⟨o.k,o.o,zE,0,l⟩
abbrev Rdr:=PS→PN × PS
def loopP (lv:Int) (sub:Rdr):Nat→PN→PS→PN × PS
 | 0,n,st=>(n,st)
 | f+1,n,st=>match st.takeO lv with
  | (none,st1)=>(n,st1)
  | (some o,st1)=>loopP lv sub f (o.node [n,(sub st1).1]) (sub st1).2
def levP (lv:Int) (sub:Rdr) (f:Nat) (st:PS):PN × PS:=loopP lv sub f (sub st).1 (sub st).2
def cmpP (sub:Rdr) (st:PS):PN × PS:=match (sub st).2.takeO 3 with
 | (none,st1)=>((sub st).1,st1)
 | (some o,st1)=>(o.node [(sub st).1,(sub st1).1],(sub st1).2)
def inBrP (len:Nat) (ex:Rdr) (c:ByteArray) (st:PS):PN × PS :=
 ((ex (st.enter len).next).1,((ex (st.enter len).next).2.sign len c).leave)
def moreP (len:Nat) (ex:Rdr):Nat→List PN→PS→List PN × PS
 | 0,acc,st=>(acc,st)
 | f+1,acc,st=>match st.takeS ⟨#[44]⟩ with
  | (false,st1)=>(acc,st1)
  | (true,st1)=>moreP len ex f (acc++[(ex st1).1]) (ex st1).2
def opsP (len:Nat) (ex:Rdr) (f:Nat) (c:ByteArray) (st:PS):List PN × PS:=match st.takeS c with
 | (true,st1)=>([],st1)
 | (false,st1)=>((moreP len ex f [(ex st1).1] (ex st1).2).1,(moreP len ex f [(ex st1).1] (ex st1).2).2.sign len c)
def PS.isCall (st:PS):Bool:=((hdT st.ts 0).k == 1) && isT (hdT st.ts 1) 6 ⟨#[40]⟩
def callP (len:Nat) (ex:Rdr) (f:Nat) (st:PS):PN × PS :=
 (⟨20,0,((st.enter len).name len).1,0,(opsP len ex f ⟨#[41]⟩ (((st.enter len).name len).2.sign len ⟨#[40]⟩)).1⟩,(opsP len ex f ⟨#[41]⟩ (((st.enter len).name len).2.sign len ⟨#[40]⟩)).2.leave)
def listP (len:Nat) (ex:Rdr) (f:Nat) (st:PS):PN × PS :=
 (⟨21,0,zE,0,(opsP len ex f ⟨#[93]⟩ ((st.enter len).sign len ⟨#[91]⟩)).1⟩,(opsP len ex f ⟨#[93]⟩ ((st.enter len).sign len ⟨#[91]⟩)).2.leave)
def litP (len:Nat) (st:PS):PN × PS :=
 if (hdT st.ts 0).k=3 then (⟨15,0,zE,(hdT st.ts 0).n,[]⟩,st.next) else if (hdT st.ts 0).k=4 then (⟨16,0,zE,(hdT st.ts 0).n,[]⟩,st.next) else
 if (hdT st.ts 0).k=5 then (⟨17,0,(hdT st.ts 0).t,0,[]⟩,st.next) else if (hdT st.ts 0).k=1 then (⟨19,0,(hdT st.ts 0).t,0,[]⟩,st.next) else (nodeZ,st.fail len 10)
def sglP (len:Nat) (ex:Rdr) (f:Nat) (st:PS):PN × PS :=
 if st.isS ⟨#[40]⟩ then inBrP len ex ⟨#[41]⟩ st else if st.isS ⟨#[91]⟩ then listP len ex f st else
 if st.isW ⟨#[110,105,108]⟩ then (⟨18,0,zE,0,[]⟩,st.next) else if st.isCall then callP len ex f st else litP len st
def ixLoopP (len:Nat) (ex:Rdr):Nat→PN→PS→PN × PS
 | 0,n,st=>(n,st)
 | f+1,n,st=>match st.oper 7 with
  | none=>(n,st)
  | some o=>ixLoopP len ex f (o.node [n,(inBrP len ex ⟨#[93]⟩ st).1]) (inBrP len ex ⟨#[93]⟩ st).2
def idxP (len:Nat) (ex:Rdr) (f:Nat) (st:PS):PN × PS:=ixLoopP len ex f (sglP len ex f st).1 (sglP len ex f st).2
def sgnP (len:Nat) (sg ex:Rdr) (f:Nat) (st:PS):PN × PS:=match st.oper 6 with
 | none=>idxP len ex f st
 | some o=>(o.node [(sg (st.enter len).next).1],(sg (st.enter len).next).2.leave)
def prdP (sg:Rdr) (f:Nat):Rdr:=levP 5 sg f
def sumP (sg:Rdr) (f:Nat):Rdr:=levP 4 (prdP sg f) f
def botP (sg:Rdr) (f:Nat):Rdr:=levP 2 (cmpP (sumP sg f)) f
def orP (sg:Rdr) (f:Nat):Rdr:=levP 1 (botP sg f) f
def bothP (len:Nat):Nat→Rdr × Rdr
 | 0=>(fun st=>(nodeZ,st),fun st=>(nodeZ,st))
 | f+1=>(sgnP len (bothP len f).1 (bothP len f).2 (f+1),orP (sgnP len (bothP len f).1 (bothP len f).2 (f+1)) (f+1))
def exP (len f:Nat):Rdr:=(bothP len f).2
end
section
structure Gr (g:Nat) (w w':World):Prop where
 os:w'.os=w.os
 tape:w'.tape=w.tape
 output:w'.output=w.output
 size:w.heap.size≤w'.heap.size
 block:∀ k,k < w.heap.size→k≠g→w'.heap[k]? = w.heap[k]?
theorem Gr.refl (g:Nat) (w:World):Gr g w w:=⟨rfl,rfl,rfl,Nat.le_refl _,fun _ _ _=>rfl⟩
theorem Gr.trans {g:Nat} {a b c:World} (h:Gr g a b) (k:Gr g b c):Gr g a c :=
 ⟨k.os.trans h.os,k.tape.trans h.tape,k.output.trans h.output,Nat.le_trans h.size k.size,fun i hi hg=>(k.block i (Nat.lt_of_lt_of_le hi h.size) hg).trans (h.block i hi hg)⟩
theorem Gr.of {g:Nat} {w w':World} (h:Ext w w'):Gr g w w':=⟨h.os,h.tape,h.output,h.size,fun k hk _=>h.block k hk⟩
theorem Gr.alloc {g:Nat} {a w:World} (h:Gr g a w) (o:Obj):Gr g a (w.alloc o):=h.trans (Gr.of (Ext.alloc _ _))
theorem Gr.drew {g:Nat} {a w:World} (h:Gr g a w):Gr g a w.drew:=h.trans (Gr.of (Ext.drew (Ext.refl _)))
theorem Gr.set {g:Nat} {a w:World} (h:Gr g a w) {p:Addr} (hp:a.heap.size≤p.block∨p.block=g) (v:Value):Gr g a (w.setCell p v) :=
 ⟨h.os,h.tape,h.output,Nat.le_trans h.size (by simp[World.setCell]),fun k hk hg=>(Below.heap_setCell _ _ _ _ (by rcases hp with hp | hp <;> omega)).trans (h.block k hk hg)⟩
theorem Gr.row {g:Nat} {w w':World} (h:Gr g w w') {b:Nat} {x:Obj} (hc:w.heap[b]? = some x) (hb:b≠g):w'.heap[b]? = some x :=
 (h.block b (Array.getElem?_eq_some_iff.1 hc).1 hb).trans hc
theorem Gr.cell {g:Nat} {w w':World} (h:Gr g w w') {b o:Nat} {v:Value} (hc:w.cell? ⟨b,o,none⟩=some v) (hb:b≠g):w'.cell? ⟨b,o,none⟩=some v:=by
 have hlt:b < w.heap.size:=World.block_lt_of_cell? w ⟨b,o,none⟩ hc;rw[World.cell?_of_block (w:=w) (h.block b hlt hb)];exact hc
theorem Ext.gr {g:Nat} {a w w':World} (h:Ext a w) (k:Gr g w w') (hg:a.heap.size≤g):Ext a w' :=
 ⟨k.os.trans h.os,k.tape.trans h.tape,k.output.trans h.output,Nat.le_trans h.size k.size,fun i hi=>(k.block i (Nat.lt_of_lt_of_le hi h.size) (by omega)).trans (h.block i hi)⟩
theorem zr {w:World} {g:Nat} {cs:Array Value} {t:TypeId} (h:w.heap[g]? = some (.cells cs t (0,0))) (i:Nat) {v:Value} (hi:cs[i]? = some v):w.cell? ⟨g,i,none⟩=some v:=by
 rw[cell_of_row w g i cs t (0,0) h];exact hi
theorem rowF {w:World} {g:Nat} {cs:Array Value} {t:TypeId} (h:w.heap[g]? = some (.cells cs t (0,0))) (i:Nat):w.frozen? ⟨g,i,none⟩=false:=by
 simp[World.frozen?,h]
theorem row_set {w:World} {g:Nat} {cs:Array Value} {t:TypeId} (h:w.heap[g]? = some (.cells cs t (0,0))) (i:Nat) (v:Value):(w.setCell ⟨g,i,none⟩ v).heap[g]? = some (.cells (cs.setIfInBounds i v) t (0,0)):=by
 simp[World.setCell,Array.getElem?_modify,h]
theorem row_other {w:World} {g b:Nat} {x:Option Obj} (h:w.heap[g]? = x) (hne:g≠b) (i:Nat) (v:Value):(w.setCell ⟨b,i,none⟩ v).heap[g]? = x :=
 (Below.heap_setCell _ _ _ _ hne).trans h
def Sl (w:World) (g:Nat) (T:Value) (ts:List Tk):Prop:=∃ a cap,T = .slice a ts.length cap∧ts.length≤cap∧cap≤9223372036854775807 ∧
 (ts = []∨∃ b off,a=some ⟨b,off,none⟩∧b < g∧∀ j u,(ts.flatMap tkC)[j]? = some u→w.cell? ⟨b,off+j,none⟩=some u)
theorem Sl.on {w w':World} {g:Nat} {T:Value} {ts:List Tk} (h:Sl w g T ts) (k:Gr g w w'):Sl w' g T ts:=by
 obtain⟨a,cap,rfl,h1,h2,h3⟩:=h;refine⟨a,cap,rfl,h1,h2,?_⟩;rcases h3 with h3 | ⟨b,off,rfl,hb,hc⟩
 ·exact Or.inl h3
 ·exact Or.inr ⟨b,off,rfl,hb,fun j u hu=>k.cell (hc j u hu) (by omega)⟩
theorem slNil (w:World) (g:Nat):Sl w g (.slice none 0 0) []:=⟨_,_,rfl,Nat.le_refl _,by decide,Or.inl rfl⟩
end
end Go.Proofs.YtjnpehohialmbaaGreat
