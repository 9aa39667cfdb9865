/- The machine with a stack,as it lies in memory. -/
import Derived.StillTailTactics
import Derived.Test.YtjnpehohialmbaaGreatZs36
import Derived.Test.YtjnpehohialmbaaGreatZs37
import Derived.Test.YtjnpehohialmbaaGreatZs13
set_option linter.unusedSimpArgs false
set_option linter.unusedVariables false
set_option maxRecDepth 10000
set_option maxHeartbeats 1000000
namespace Go.Proofs.YtjnpehohialmbaaGreat
open Go.RowKit
namespace V
def T5 (t:TypeId):Prop:=t=59∨t=94∨t=138∨t=53∨t=40
structure SvF5 (L:Nat) (w w':World):Prop where
 os:w'.os=w.os
 tape:w'.tape=w.tape
 output:w'.output=w.output
 size:w.heap.size≤w'.heap.size
 low:∀ b,b < L→w'.heap[b]? = w.heap[b]?
 typ:∀ (b:Nat) (cs:Array Value) (t:TypeId) (fr:Nat × Nat),w.heap[b]? = some (.cells cs t fr)→¬ T5 t→w'.heap[b]? = some (.cells cs t fr)
def NT (L:Nat) (w:World) (b:Nat):Prop:=b < w.heap.size∧(b < L∨∃ (cs:Array Value) (t:TypeId) (fr:Nat × Nat),w.heap[b]? = some (.cells cs t fr)∧¬ T5 t)
variable {L:Nat} {w w' w2:World}
theorem SvF5.refl (L:Nat) (w:World):SvF5 L w w:=⟨rfl,rfl,rfl,Nat.le_refl _,fun _ _=>rfl,fun _ _ _ _ h _=>h⟩
theorem SvF5.trans (h:SvF5 L w w') (k:SvF5 L w' w2):SvF5 L w w2:=⟨k.os.trans h.os,k.tape.trans h.tape,k.output.trans h.output,Nat.le_trans h.size k.size,fun b hb=>(k.low b hb).trans (h.low b hb),fun b cs t fr hb ht=>k.typ b cs t fr (h.typ b cs t fr hb ht) ht⟩
theorem SvF5.of (hL:L≤w.heap.size) (k:Ext w w'):SvF5 L w w':=⟨k.os,k.tape,k.output,k.size,fun b hb=>k.block b (by omega),fun b cs t fr hb _=>(k.block b (Array.getElem?_eq_some_iff.1 hb).1).trans hb⟩
theorem SvF5.extOf {w0:World} (h0:Ext w0 w) (h:SvF5 w0.heap.size w w'):Ext w0 w':=⟨h.os.trans h0.os,h.tape.trans h0.tape,h.output.trans h0.output,Nat.le_trans h0.size h.size,fun b hb=>(h.low b hb).trans (h0.block b hb)⟩
theorem SvF5.nt (h:SvF5 L w w') (b:Nat) (hb:NT L w b):NT L w' b∧w'.heap[b]? = w.heap[b]?:=by
 obtain⟨h1,h2⟩:=hb;rcases h2 with h2 | ⟨cs,t,fr,hr,ht⟩
 ·exact⟨⟨Nat.lt_of_lt_of_le h1 h.size,Or.inl h2⟩,h.low b h2⟩
 ·have h3:=h.typ b cs t fr hr ht
  exact⟨⟨Nat.lt_of_lt_of_le h1 h.size,Or.inr ⟨cs,t,fr,h3,ht⟩⟩,h3.trans hr.symm⟩
theorem SvF5.set (h:SvF5 L w w') {b:Nat} {cs:Array Value} {t:TypeId} {fr:Nat × Nat} (hb:w'.heap[b]? = some (.cells cs t fr)) (ht:T5 t) (hL:L≤b) (i:Nat) (v:Value):SvF5 L w (w'.setCell ⟨b,i,none⟩ v):=by
 refine⟨h.os,h.tape,h.output,by simpa [World.setCell] using h.size,fun q hq => ?_,fun q cs2 t2 fr2 hq h2 => ?_⟩
 ·rw[Below.heap_setCell _ _ _ _ (by show q≠b;omega)];exact h.low q hq
 ·have h3:=h.typ q cs2 t2 fr2 hq h2
  refine(Below.heap_setCell _ _ _ _ (fun e => ?_)).trans h3;have e:q=b:=e;subst e;rw[hb] at h3;injection h3 with h3;injection h3 with _ h3 _;subst h3;exact h2 ht
theorem SvF5.grow {B:Nat} {e:TypeId} {size n:Nat} {v:Value} {xs:List Value} {w6:World} (h:SvF5 L w w') (ho:w'.ownsRow B e size v n xs) (he:T5 e) (hLB:L≤B) (hL:L≤w'.heap.size) (hgw:w'.grownBy w6 v.ownBlock):SvF5 L w w6:=by
 refine h.trans ⟨hgw.os,hgw.tape,hgw.output,hgw.size,fun b hb=>hgw.block b (by omega) (fun e=>by have:=(ho.lt b e.symm).1;omega),fun b cs t fr hb ht => ?_⟩;refine(hgw.block b (Array.getElem?_eq_some_iff.1 hb).1 (fun e2 => ?_)).trans hb;rcases ho.2 with⟨rfl,_⟩ | ⟨b2,cap,cur,rfl,_,hrow,_⟩
 ·cases e2
 ·simp only[Value.ownBlock,Option.some.injEq] at e2
  subst e2;rw[hrow] at hb;injection hb with hb;injection hb with _ hb _;subst hb;exact ht he
theorem SvF5.setN (h:SvF5 L w w') {b:Nat} (hb:w.heap.size≤b) (hL:L≤w.heap.size) (i:Nat) (v:Value):SvF5 L w (w'.setCell ⟨b,i,none⟩ v):=by
 refine⟨h.os,h.tape,h.output,by simpa [World.setCell] using h.size,fun q hq => ?_,fun q cs2 t2 fr2 hq h2 => ?_⟩
 ·rw[Below.heap_setCell _ _ _ _ (by show q≠b;omega)];exact h.low q hq
 ·have h4:=(Array.getElem?_eq_some_iff.1 hq).1
  rw[Below.heap_setCell _ _ _ _ (by show q≠b;omega)];exact h.typ q cs2 t2 fr2 hq h2
theorem NT.new (hL:L≤w.heap.size) (cs:Array Value) (t:TypeId) (ht:¬ T5 t):NT L (w.alloc (.cells cs t)) w.heap.size:=⟨by simp,Or.inr ⟨cs,t,(0,0),Go.heap_alloc_new w _,ht⟩⟩
theorem El.to {F F':Nat→Prop} {b o:Nat} {x:PV} {a:Option Addr} {cap:Nat} (h:∀ b,F b→F' b∧w'.heap[b]? = w.heap[b]?) (e:El w F b o x a cap):El w' F' b o x a cap:=by
 have hc:∀ o,w'.cell? ⟨b,o,none⟩=w.cell? ⟨b,o,none⟩:=fun o=>World.cell?_of_block (w:=w) (h b e.f).2;exact⟨(h b e.f).1,by rw[hc];exact e.c0,by rw[hc];exact e.c1,by rw[hc];exact e.c2,by rw[hc];exact e.c3,by rw[hc];exact e.c4,e.bd,RepL.to h _ _ e.sub⟩
def PtV (L:Nat) (w:World) (a:Addr) (p:PV):Prop:=∃ b o sa sc,a=⟨b,o,none⟩∧El w (NT L w) b o p sa sc
theorem PtV.on (h:SvF5 L w w') {a:Addr} {p:PV} (x:PtV L w a p):PtV L w' a p:=by
 obtain⟨b,o,sa,sc,e,hE⟩:=x;exact⟨b,o,sa,sc,e,hE.to h.nt⟩
def PtL (L:Nat) (w:World) (ads:List Addr) (vs:List PV):Prop:=ads.length=vs.length∧∀ (i:Nat) (a:Addr) (p:PV),ads[i]? = some a→vs[i]? = some p→PtV L w a p
theorem PtL.on (h:SvF5 L w w') {ads:List Addr} {vs:List PV} (x:PtL L w ads vs):PtL L w' ads vs:=⟨x.1,fun i a p h1 h2=>(x.2 i a p h1 h2).on h⟩
theorem PtL.nil:PtL L w [] []:=⟨rfl,fun i a p h=>by simp at h⟩
theorem PtL.snoc {ads:List Addr} {vs:List PV} {a:Addr} {p:PV} (x:PtL L w ads vs) (y:PtV L w a p):PtL L w (ads++[a]) (vs++[p]):=by
 refine⟨by simp[x.1],fun i a' p' h1 h2 => ?_⟩;by_cases hi:i < ads.length
 ·rw[List.getElem?_append_left hi] at h1
  rw[List.getElem?_append_left (by rw[← x.1];exact hi)] at h2;exact x.2 i a' p' h1 h2
 ·rw[List.getElem?_append_right (by omega)] at h1
  rw[List.getElem?_append_right (by rw[← x.1];omega)] at h2;have hi0:i - ads.length=0:=by
   have:=(List.getElem?_eq_some_iff.1 h1).1;simp at this;omega
  rw[hi0] at h1;rw[← x.1,hi0] at h2;simp at h1 h2;subst h1 h2;exact y
theorem PtL.unsnoc {ads:List Addr} {vs:List PV} {p:PV} (x:PtL L w ads (vs++[p])):∃ us a,ads=us++[a]∧PtL L w us vs∧PtV L w a p:=by
 have hl:=x.1;simp at hl;have hne:ads≠[]:=fun e=>by rw[e] at hl;simp at hl
 refine⟨ads.dropLast,ads.getLast hne,(List.dropLast_concat_getLast hne).symm,⟨by simp;omega,fun i a q h1 h2 => ?_⟩,?_⟩
 ·have hi:=(List.getElem?_eq_some_iff.1 h2).1
  refine x.2 i a q ?_ (by rw[List.getElem?_append_left hi];exact h2);rw[List.getElem?_dropLast] at h1
  split at h1
  ·exact h1
  ·cases h1
 ·refine x.2 vs.length _ _ ?_ (by rw[List.getElem?_append_right (Nat.le_refl _),Nat.sub_self];rfl)
  rw[List.getLast_eq_getElem,List.getElem?_eq_getElem (by omega)]
  congr 1
  congr 1
  omega
theorem PtL.set {ads:List Addr} {vs:List PV} {a:Addr} {p:PV} (x:PtL L w ads vs) (j:Nat) (y:PtV L w a p):PtL L w (ads.set j a) (vs.set j p):=by
 refine⟨by simp[x.1],fun i a' p' h1 h2 => ?_⟩;rw[List.getElem?_set] at h1 h2;by_cases hj:j=i
 ·rw[if_pos hj] at h1 h2
  split at h1
  ·split at h2
   ·injection h1 with h1
    injection h2 with h2;subst h1 h2;exact y
   ·cases h2
  ·cases h1
 ·rw[if_neg hj] at h1 h2
  exact x.2 i a' p' h1 h2
theorem PtL.at {ads:List Addr} {vs:List PV} {i:Nat} {p:PV} (x:PtL L w ads vs) (h:vs[i]? = some p):∃ a,ads[i]? = some a∧PtV L w a p:=by
 have hi:=(List.getElem?_eq_some_iff.1 h).1;refine⟨ads[i]'(by rw[x.1];exact hi),List.getElem?_eq_getElem _,x.2 i _ p (List.getElem?_eq_getElem _) h⟩
theorem PtL.take {ads:List Addr} {vs:List PV} (x:PtL L w ads vs) (n:Nat):PtL L w (ads.take n) (vs.take n):=by
 refine⟨by simp[x.1],fun i a p h1 h2 => ?_⟩;rw[List.getElem?_take] at h1 h2;by_cases hi:i < n
 ·rw[if_pos hi] at h1 h2
  exact x.2 i a p h1 h2
 ·rw[if_neg hi] at h1
  cases h1
structure SHd where
 L:Nat
 B:Nat
 g:Nat
 r:Nat
 fa:Option Addr
 fl:Nat
 fc:Nat
 na:Addr
abbrev clC (c:Nat × Nat × Nat):List Value:=[.int .i64 (c.1:Int),.int .i64 (c.2.1:Int),.int .i64 (c.2.2:Int)]
abbrev ptC (a:Addr):Value:=.pointer (some a)
abbrev mcO (h:SHd) (ca:Option Addr) (n cc:Nat) (va:Option Addr) (m vc:Nat):Obj:=.cells #[.slice h.fa h.fl h.fc,.slice ca n cc,.slice va m vc,.pointer (some h.na),.pointer (some ⟨h.r,0,none⟩)] 59 (0,0)
abbrev rcO (fu:Int) (ea:Option Addr) (n ec:Nat):Obj:=.cells #[.int .i64 fu,.slice ea n ec] 94 (0,0)
structure SAd where
 ca:Option Addr
 cc:Nat
 va:Option Addr
 vc:Nat
 ea:Option Addr
 ec:Nat
structure SB (h:SHd) (w:World) (cs:List (Nat × Nat × Nat)) (ads:List Addr) (fu:Int) (ne:Nat) (evs:List Value) (d:SAd):Prop where
 row:w.heap[h.g]? = some (mcO h d.ca cs.length d.cc d.va ads.length d.vc)
 rcd:w.heap[h.r]? = some (rcO fu d.ea ne d.ec)
 oc:w.ownsRow h.B 138 3 (.slice d.ca cs.length d.cc) cs.length (cs.flatMap clC)
 ov:w.ownsRow h.B 53 1 (.slice d.va ads.length d.vc) ads.length (ads.map ptC)
 oe:w.ownsRow h.B 40 7 (.slice d.ea ne d.ec) ne evs
 lg:h.L≤h.g∧h.g < h.B
 lr:h.L≤h.r∧h.r < h.B
 lb:h.B≤w.heap.size
variable {h:SHd} {cs:List (Nat × Nat × Nat)} {ads:List Addr} {fu:Int} {ne:Nat} {evs:List Value} {d:SAd}
theorem SB.lt (x:SB h w cs ads fu ne evs d):h.g < w.heap.size:=(Array.getElem?_eq_some_iff.1 x.row).1
theorem SB.ltr (x:SB h w cs ads fu ne evs d):h.r < w.heap.size:=(Array.getElem?_eq_some_iff.1 x.rcd).1
theorem SB.ltL (x:SB h w cs ads fu ne evs d):h.L≤w.heap.size:=by have:=x.lt;have:=x.lg.1;omega
theorem SB.gr (x:SB h w cs ads fu ne evs d):h.g≠h.r:=fun e=>by
 have h1:=x.row;have h2:=x.rcd;rw[e,h2] at h1;injection h1 with h1;injection h1 with _ h1 _;exact absurd h1 (by decide)
theorem SB.ext (x:SB h w cs ads fu ne evs d) (k:Ext w w'):SB h w' cs ads fu ne evs d :=
 ⟨(k.block _ x.lt).trans x.row,(k.block _ x.ltr).trans x.rcd,own_extM x.oc k,own_extM x.ov k,own_extM x.oe k,x.lg,x.lr,Nat.le_trans x.lb k.size⟩
theorem SB.keep (x:SB h w cs ads fu ne evs d) (hs:w.heap.size≤w'.heap.size) (k:∀ q,q < w.heap.size→w'.heap[q]? = w.heap[q]?):SB h w' cs ads fu ne evs d :=
 ⟨(k _ x.lt).trans x.row,(k _ x.ltr).trans x.rcd,own_keepM x.oc (fun q hq=>k q (x.oc.lt q hq).2),own_keepM x.ov (fun q hq=>k q (x.ov.lt q hq).2),own_keepM x.oe (fun q hq=>k q (x.oe.lt q hq).2),x.lg,x.lr,Nat.le_trans x.lb hs⟩
theorem own_setO {B b:Nat} {e:TypeId} {size n:Nat} {v:Value} {xs:List Value} (ho:w.ownsRow B e size v n xs) (hb:b < B) (i:Nat) (u:Value):(w.setCell ⟨b,i,none⟩ u).ownsRow B e size v n xs:=own_keepM ho (fun q hq=>Below.heap_setCell _ _ _ _ (by have:=(ho.lt q hq).1;show q≠b;omega))
theorem own_cut {B:Nat} {e:TypeId} {size n c m:Nat} {a:Option Addr} {xs:List Value} (ho:w.ownsRow B e size (.slice a n c) n xs) (hm:m≤n):w.ownsRow B e size (.slice a m c) m (xs.take (m * size)):=by
 obtain⟨h1,h2⟩:=ho;have hle:m * size≤n * size:=Nat.mul_le_mul_right size hm;refine⟨by rw[List.length_take,h1];omega,?_⟩;rcases h2 with⟨e1,e2⟩ | ⟨g,cap,cur,e1,hb,hg,hn,hcm,hcs,ht⟩
 ·subst e2
  injection e1 with e3 _ e4;subst e3 e4;obtain rfl:m=0:=by omega
  exact Or.inl ⟨rfl,rfl⟩
 ·injection e1 with e3 _ e4
  subst e3 e4;refine Or.inr ⟨g,c,cur,rfl,hb,hg,by omega,hcm,hcs,?_⟩;rw[← ht,List.take_take]
  congr 1
  omega
theorem SB.cutV (x:SB h w cs ads fu ne evs d) (m:Nat) (hm:m≤ads.length):SB h (w.setCell ⟨h.g,2,none⟩ (.slice d.va m d.vc)) cs (ads.take m) fu ne evs d∧SvF5 h.L w (w.setCell ⟨h.g,2,none⟩ (.slice d.va m d.vc)):=by
 have hl:(ads.take m).length=m:=by rw[List.length_take];omega
 refine⟨⟨?_,(Below.heap_setCell _ _ _ _ (fun e=>x.gr e.symm)).trans x.rcd,own_setO x.oc x.lg.2 _ _,?_,own_setO x.oe x.lg.2 _ _,x.lg,x.lr,by simpa [World.setCell] using x.lb⟩,(SvF5.refl _ _).set x.row (Or.inl rfl) x.lg.1 _ _⟩
 ·rw[hl]
  exact row_set x.row 2 _
 ·rw[hl]
  have:=own_cut x.ov hm;rw[Nat.mul_one,← List.map_take] at this;exact own_setO this x.lg.2 _ _
theorem SB.cutC (x:SB h w cs ads fu ne evs d) (m:Nat) (hm:m≤cs.length):SB h (w.setCell ⟨h.g,1,none⟩ (.slice d.ca m d.cc)) (cs.take m) ads fu ne evs d∧SvF5 h.L w (w.setCell ⟨h.g,1,none⟩ (.slice d.ca m d.cc)):=by
 have hl:(cs.take m).length=m:=by rw[List.length_take];omega
 have hf:∀ (l:List (Nat × Nat × Nat)) (k:Nat),(l.flatMap clC).take (k * 3)=(l.take k).flatMap clC:=by
  intro l
  induction l with
  | nil=>intro k;simp
  | cons a l ih =>
   intro k;cases k with
   | zero=>simp
   | succ k =>
    rw[List.flatMap_cons,List.take_succ_cons,List.flatMap_cons,← ih k,List.take_append,List.take_of_length_le (by simp;omega)]
    congr 2
    simp;omega
 refine⟨⟨?_,(Below.heap_setCell _ _ _ _ (fun e=>x.gr e.symm)).trans x.rcd,?_,own_setO x.ov x.lg.2 _ _,own_setO x.oe x.lg.2 _ _,x.lg,x.lr,by simpa [World.setCell] using x.lb⟩,(SvF5.refl _ _).set x.row (Or.inl rfl) x.lg.1 _ _⟩
 ·rw[hl]
  exact row_set x.row 1 _
 ·rw[hl]
  have:=own_cut x.oc hm;rw[hf] at this;exact own_setO this x.lg.2 _ _
theorem SB.pushV {wa w6:World} {g' cap':Nat} {a:Addr} (x:SB h wa cs ads fu ne evs d) (ho:w6.ownsRow h.B 53 1 (.slice (some ⟨g',0,none⟩) (ads.length+1) cap') (ads.length+1) (ads.map ptC++[ptC a])) (hgw:wa.grownBy w6 (Value.slice d.va ads.length d.vc).ownBlock) :
  SB h (w6.setCell ⟨h.g,2,none⟩ (.slice (some ⟨g',0,none⟩) (ads.length+1) cap')) cs (ads++[a]) fu ne evs { d with va:=some ⟨g',0,none⟩,vc:=cap' }∧SvF5 h.L wa (w6.setCell ⟨h.g,2,none⟩ (.slice (some ⟨g',0,none⟩) (ads.length+1) cap'))∧w6.heap[h.g]? = wa.heap[h.g]?:=by
 have hl:(ads++[a]).length=ads.length+1:=by simp
 have kg:w6.heap[h.g]? = wa.heap[h.g]?:=hgw.block h.g x.lt (fun e=>by have:=(x.ov.lt _ e.symm).1;have:=x.lg.2;omega);have kr:w6.heap[h.r]? = wa.heap[h.r]?:=hgw.block h.r x.ltr (fun e=>by have:=(x.ov.lt _ e.symm).1;have:=x.lr.2;omega);have F:=(SvF5.refl h.L wa).grow x.ov (Or.inr (Or.inr (Or.inr (Or.inl rfl)))) (by have:=x.lg;omega) x.ltL hgw;refine⟨⟨?_,(Below.heap_setCell _ _ _ _ (fun e=>x.gr e.symm)).trans (kr.trans x.rcd),own_setO (x.oc.kept hgw (own_twoM x.oc x.ov (by decide))) x.lg.2 _ _,?_,own_setO (x.oe.kept hgw (own_twoM x.oe x.ov (by decide))) x.lg.2 _ _,x.lg,x.lr,by have h1:=hgw.size;have h2:=x.lb;simp[World.setCell];omega⟩,F.set (kg.trans x.row) (Or.inl rfl) x.lg.1 _ _,kg⟩
 ·rw[hl]
  exact row_set (kg.trans x.row) 2 _
 ·rw[hl,List.map_append]
  exact own_setO ho x.lg.2 _ _
theorem SB.pushVc {wa w6:World} {g' cap' m:Nat} {a:Addr} (x:SB h wa cs ads fu ne evs d) (hm:m≤ads.length) (ho:w6.ownsRow h.B 53 1 (.slice (some ⟨g',0,none⟩) (m+1) cap') (m+1) ((ads.take m).map ptC++[ptC a])) (hgw:wa.grownBy w6 (Value.slice d.va m d.vc).ownBlock) :
  SB h (w6.setCell ⟨h.g,2,none⟩ (.slice (some ⟨g',0,none⟩) (m+1) cap')) cs (ads.take m++[a]) fu ne evs { d with va:=some ⟨g',0,none⟩,vc:=cap' }∧SvF5 h.L wa (w6.setCell ⟨h.g,2,none⟩ (.slice (some ⟨g',0,none⟩) (m+1) cap'))∧w6.heap[h.g]? = wa.heap[h.g]?:=by
 have hl:(ads.take m++[a]).length=m+1:=by simp;omega
 have e:(Value.slice d.va m d.vc).ownBlock=(Value.slice d.va ads.length d.vc).ownBlock:=by cases d.va <;> rfl
 rw[e] at hgw;have kg:w6.heap[h.g]? = wa.heap[h.g]?:=hgw.block h.g x.lt (fun e=>by have:=(x.ov.lt _ e.symm).1;have:=x.lg.2;omega);have kr:w6.heap[h.r]? = wa.heap[h.r]?:=hgw.block h.r x.ltr (fun e=>by have:=(x.ov.lt _ e.symm).1;have:=x.lr.2;omega);have F:=(SvF5.refl h.L wa).grow x.ov (Or.inr (Or.inr (Or.inr (Or.inl rfl)))) (by have:=x.lg;omega) x.ltL hgw;refine⟨⟨?_,(Below.heap_setCell _ _ _ _ (fun e=>x.gr e.symm)).trans (kr.trans x.rcd),own_setO (x.oc.kept hgw (own_twoM x.oc x.ov (by decide))) x.lg.2 _ _,?_,own_setO (x.oe.kept hgw (own_twoM x.oe x.ov (by decide))) x.lg.2 _ _,x.lg,x.lr,by have h1:=hgw.size;have h2:=x.lb;simp[World.setCell];omega⟩,F.set (kg.trans x.row) (Or.inl rfl) x.lg.1 _ _,kg⟩
 ·rw[hl]
  exact row_set (kg.trans x.row) 2 _
 ·rw[hl,List.map_append]
  exact own_setO ho x.lg.2 _ _
theorem SB.pushC {wa w6:World} {g' cap':Nat} {c:Nat × Nat × Nat} (x:SB h wa cs ads fu ne evs d) (ho:w6.ownsRow h.B 138 3 (.slice (some ⟨g',0,none⟩) (cs.length+1) cap') (cs.length+1) (cs.flatMap clC++clC c)) (hgw:wa.grownBy w6 (Value.slice d.ca cs.length d.cc).ownBlock) :
  SB h (w6.setCell ⟨h.g,1,none⟩ (.slice (some ⟨g',0,none⟩) (cs.length+1) cap')) (cs++[c]) ads fu ne evs { d with ca:=some ⟨g',0,none⟩,cc:=cap' }∧SvF5 h.L wa (w6.setCell ⟨h.g,1,none⟩ (.slice (some ⟨g',0,none⟩) (cs.length+1) cap'))∧w6.heap[h.g]? = wa.heap[h.g]?:=by
 have hl:(cs++[c]).length=cs.length+1:=by simp
 have kg:w6.heap[h.g]? = wa.heap[h.g]?:=hgw.block h.g x.lt (fun e=>by have:=(x.oc.lt _ e.symm).1;have:=x.lg.2;omega);have kr:w6.heap[h.r]? = wa.heap[h.r]?:=hgw.block h.r x.ltr (fun e=>by have:=(x.oc.lt _ e.symm).1;have:=x.lr.2;omega);have F:=(SvF5.refl h.L wa).grow x.oc (Or.inr (Or.inr (Or.inl rfl))) (by have:=x.lg;omega) x.ltL hgw;refine⟨⟨?_,(Below.heap_setCell _ _ _ _ (fun e=>x.gr e.symm)).trans (kr.trans x.rcd),?_,own_setO (x.ov.kept hgw (own_twoM x.ov x.oc (by decide))) x.lg.2 _ _,own_setO (x.oe.kept hgw (own_twoM x.oe x.oc (by decide))) x.lg.2 _ _,x.lg,x.lr,by have h1:=hgw.size;have h2:=x.lb;simp[World.setCell];omega⟩,F.set (kg.trans x.row) (Or.inl rfl) x.lg.1 _ _,kg⟩
 ·rw[hl]
  exact row_set (kg.trans x.row) 1 _
 ·rw[hl,List.flatMap_append]
  exact own_setO (by simpa using ho) x.lg.2 _ _
theorem SB.putF (x:SB h w cs ads fu ne evs d) (u:Int):SB h (w.setCell ⟨h.r,0,none⟩ (.int .i64 u)) cs ads u ne evs d∧SvF5 h.L w (w.setCell ⟨h.r,0,none⟩ (.int .i64 u)) :=
 ⟨⟨(Below.heap_setCell _ _ _ _ x.gr).trans x.row,row_set x.rcd 0 _,own_setO x.oc x.lr.2 _ _,own_setO x.ov x.lr.2 _ _,own_setO x.oe x.lr.2 _ _,x.lg,x.lr,by simpa [World.setCell] using x.lb⟩,(SvF5.refl _ _).set x.rcd (Or.inr (Or.inl rfl)) x.lr.1 _ _⟩
theorem SB.pushE {wa w6:World} {g' cap':Nat} {news:List Value} (x:SB h wa cs ads fu ne evs d) (ho:w6.ownsRow h.B 40 7 (.slice (some ⟨g',0,none⟩) (ne+1) cap') (ne+1) (evs++news)) (hgw:wa.grownBy w6 (Value.slice d.ea ne d.ec).ownBlock) :
  SB h (w6.setCell ⟨h.r,1,none⟩ (.slice (some ⟨g',0,none⟩) (ne+1) cap')) cs ads fu (ne+1) (evs++news) { d with ea:=some ⟨g',0,none⟩,ec:=cap' }∧SvF5 h.L wa (w6.setCell ⟨h.r,1,none⟩ (.slice (some ⟨g',0,none⟩) (ne+1) cap'))∧w6.heap[h.r]? = wa.heap[h.r]?:=by
 have kg:w6.heap[h.g]? = wa.heap[h.g]?:=hgw.block h.g x.lt (fun e=>by have:=(x.oe.lt _ e.symm).1;have:=x.lg.2;omega);have kr:w6.heap[h.r]? = wa.heap[h.r]?:=hgw.block h.r x.ltr (fun e=>by have:=(x.oe.lt _ e.symm).1;have:=x.lr.2;omega);have F:=(SvF5.refl h.L wa).grow x.oe (Or.inr (Or.inr (Or.inr (Or.inr rfl)))) (by have:=x.lg;omega) x.ltL hgw;exact⟨⟨(Below.heap_setCell _ _ _ _ x.gr).trans (kg.trans x.row),row_set (kr.trans x.rcd) 1 _,own_setO (x.oc.kept hgw (own_twoM x.oc x.oe (by decide))) x.lr.2 _ _,own_setO (x.ov.kept hgw (own_twoM x.ov x.oe (by decide))) x.lr.2 _ _,own_setO ho x.lr.2 _ _,x.lg,x.lr,by have h1:=hgw.size;have h2:=x.lb;simp[World.setCell];omega⟩,F.set (kr.trans x.rcd) (Or.inr (Or.inl rfl)) x.lr.1 _ _,kr⟩
end V
namespace V
variable {w w' w2:World} {h:SHd} {cs:List (Nat × Nat × Nat)} {ads:List Addr} {fu:Int} {ne:Nat} {evs:List Value} {d:SAd}
theorem infoPt:(Tryz.prog.info? 53).map (fun i=>(i.zero,i.size,i.bytes))=some (some (.pointer none),1,8):=by kernel_rfl
theorem SB.cells (x:SB h w cs ads fu ne evs d):w.cell? ⟨h.g,0,none⟩=some (.slice h.fa h.fl h.fc)∧w.cell? ⟨h.g,1,none⟩=some (.slice d.ca cs.length d.cc)∧w.cell? ⟨h.g,2,none⟩=some (.slice d.va ads.length d.vc)∧w.cell? ⟨h.g,3,none⟩=some (.pointer (some h.na))∧w.cell? ⟨h.g,4,none⟩=some (.pointer (some ⟨h.r,0,none⟩))∧∀ i,w.frozen? ⟨h.g,i,none⟩=false :=
 ⟨zr x.row 0 rfl,zr x.row 1 rfl,zr x.row 2 rfl,zr x.row 3 rfl,zr x.row 4 rfl,fun i=>rowF x.row i⟩
theorem SB.vb (x:SB h w cs ads fu ne evs d) (hn:0 < ads.length):∃ vb,d.va=some ⟨vb,0,none⟩∧ads.length≤d.vc∧h.B≤vb∧(∀ i,w.frozen? ⟨vb,i,none⟩=false)∧∀ (i:Nat) (a:Addr),ads[i]? = some a→w.cell? ⟨vb,i,none⟩=some (.pointer (some a)):=by
 rcases id x.ov.2 with⟨e,e0⟩ | ⟨b,cap,cur,e,hb,hg,hn2,hm,_⟩
 ·omega
 ·injection e with e1 e2 e3
  refine⟨b,e1,by omega,hb,fun i=>rowF hg i,fun i a hi => ?_⟩;have:=x.ov.cells (g:=b) (by rw[e1];rfl) i (ptC a) (by rw[List.getElem?_map,hi];rfl);have e:(⟨b,0,none⟩:Addr).add i=⟨b,i,none⟩:=by cases i <;> simp[Addr.add]
  rw[e] at this;exact this
theorem SB.cb (x:SB h w cs ads fu ne evs d) (hn:0 < cs.length):∃ cb,d.ca=some ⟨cb,0,none⟩∧cs.length≤d.cc∧h.B≤cb∧(∀ i,w.frozen? ⟨cb,i,none⟩=false)∧∀ (i:Nat) (c:Nat × Nat × Nat),cs[i]? = some c→w.cell? ⟨cb,i * 3,none⟩=some (.int .i64 (c.1:Int))∧w.cell? ⟨cb,i * 3+1,none⟩=some (.int .i64 (c.2.1:Int))∧w.cell? ⟨cb,i * 3+2,none⟩=some (.int .i64 (c.2.2:Int)):=by
 rcases id x.oc.2 with⟨e,e0⟩ | ⟨b,cap,cur,e,hb,hg,hn2,hm,_⟩
 ·omega
 ·injection e with e1 e2 e3
  refine⟨b,e1,by omega,hb,fun i=>rowF hg i,fun i c hi => ?_⟩;have hf:∀ (l:List (Nat × Nat × Nat)) (j:Nat),l[j]? = some c→∀ r u,(clC c)[r]? = some u→(l.flatMap clC)[j * 3+r]? = some u:=by
   intro l
   induction l with
   | nil=>intro j hj;simp at hj
   | cons y l ih =>
    intro j hj r u hu;have hr:=(List.getElem?_eq_some_iff.1 hu).1;simp at hr;rw[List.flatMap_cons];cases j with
    | zero =>
     simp at hj;subst hj;rw[Nat.zero_mul,Nat.zero_add,List.getElem?_append_left (by simpa using hr)];exact hu
    | succ j =>
     rw[show (j+1) * 3+r=(clC y).length+(j * 3+r) by simp;omega,List.getElem?_append_right (by omega),Nat.add_sub_cancel_left];exact ih j (by simpa using hj) r u hu
  have e:∀ k,(⟨b,0,none⟩:Addr).add k=⟨b,k,none⟩:=fun k=>by cases k <;> simp[Addr.add]
  have k0:=x.oc.cells (g:=b) (by rw[e1];rfl) _ _ (hf cs i hi 0 _ rfl);have k1:=x.oc.cells (g:=b) (by rw[e1];rfl) _ _ (hf cs i hi 1 _ rfl);have k2:=x.oc.cells (g:=b) (by rw[e1];rfl) _ _ (hf cs i hi 2 _ rfl);rw[e] at k0 k1 k2;exact⟨k0,k1,k2⟩
theorem push_v (x:SB h w cs ads fu ne evs d) (hn:ads.length≤2000000) (a:Addr):Calls Tryz.prog 53 #[.pointer (some ⟨h.g,0,none⟩),.pointer (some a)] w fun e w'=>e = .returned (.tuple #[])∧(∃ va vc,SB h w' cs (ads++[a]) fu ne evs { d with va:=va,vc:=vc })∧SvF5 h.L w w':=by
 have hg:=x.lt;have hL:=x.ltL;have hB:=x.lb;have HA:=zh (fun ob=>x.ext (Ext.alloc w ob));obtain⟨c0,c1,c2,c3,c4,zf⟩:=x.cells;obtain⟨i0,hi,hz0,hz1,hz2⟩:=info_parts infoPt;have HI:=zh hi;have Z0:=zh hz0;have Z1:=zh hz1;have Z2:=zh hz2;clear hi hz0 hz1 hz2 x
 go_enter Tryz.func53,Tryz.ntmps53
 go_wp2_with (at_builtin;refine wpList_append_where rfl (.tmp 8) (.tmp 10) 57 rfl h.B 53 i0 (.pointer none) 1 8 Tryz.underlying57 (zu HI) (zu Z0) (zu Z1) (zu Z2) rfl (by decide) d.va ads.length d.vc (ads.map ptC) rfl (zu HA _).ov ⟨w.heap.size,0,none⟩ 1 1 [ptC a] rfl (by decide) rfl (cells_new w _ _) (by intro u hu;simp at hu;rw[hu];rfl) ?c1 ?c2 ?c3 ?_)
 case c1=>unfold maxLen;omega
 case c2=>omega
 case c3=>simp;omega
 intro g2 cap6 w6 ho6 hg6 hw6;obtain⟨hP,hF,hk⟩:=SB.pushV (a:=a) (zu HA _) ho6 hg6;have hrow6:=hk.trans (zu HA _).row;have z2:=zr hrow6 2 rfl;have zzf:=fun i=>rowF hrow6 i;have HP:=zh hP;have HF:=zh ((SvF5.of hL (Ext.alloc w _)).trans hF);clear hP hF hk hrow6 ho6 hg6 hw6 c0 c1 c2 c3 c4 zf
 go_wp2_with fail
 go_end0
 exact⟨rfl,⟨_,_,zu HP⟩,zu HF⟩
theorem take_v (x:SB h w cs ads fu ne evs d) (hn:ads.length≤2000000) (n m:Nat) (h0:0 < n) (hm:ads.length=m+n):Calls Tryz.prog 60 #[.pointer (some ⟨h.g,0,none⟩),.int .i64 (n:Int)] w fun e w'=>(∃ vb tc,e = .returned (.slice (some ⟨vb,m,none⟩) n tc)∧n≤tc∧∀ (i:Nat) (a:Addr),ads[m+i]? = some a→w'.cell? ⟨vb,m+i,none⟩=some (.pointer (some a)))∧SB h w' cs (ads.take m) fu ne evs d∧SvF5 h.L w w':=by
 obtain⟨c0,c1,c2,c3,c4,zf⟩:=x.cells;obtain⟨vb,e1,hc,hB,hfz,hcell⟩:=x.vb (by omega);have HS:=zh (x.cutV m (by omega));have hcell2:Hd (∀ (i:Nat) (a:Addr),ads[m+i]? = some a→(w.setCell ⟨h.g,2,none⟩ (.slice d.va m d.vc)).cell? ⟨vb,m+i,none⟩=some (.pointer (some a))):=fun i a hi=>by
  have hne:vb≠h.g:=by have:=x.lg.2;omega
  rw[World.cell?_of_block (w:=w) (Below.heap_setCell _ _ _ _ hne)];exact hcell _ _ hi
 obtain⟨ca,cc,va,vc,ea,ec⟩:=d;simp only at e1 hc c2 hcell2;subst e1;have hl:((ads.length:Nat):Int)=(m:Int)+(n:Int):=by omega
 have h1:(m:Int) < (vc:Int):=by omega
 have h2:(m:Int)+(n:Int)≤(vc:Int):=by omega
 have h3:m+n≤2000000:=by omega
 have HM:=zh hm;rw[hm] at c2;clear x hcell hm hl hn
 go_enter Tryz.func60,Tryz.ntmps60
 go_wp2_with fail
 go_ret;exact⟨⟨vb,_,rfl,by omega,zu hcell2⟩,(zu HS).1,(zu HS).2⟩
theorem pop_v {us:List Addr} {a:Addr} (x:SB h w cs (us++[a]) fu ne evs d) (hn:us.length≤1000000):Calls Tryz.prog 26 #[.pointer (some ⟨h.g,0,none⟩)] w fun e w'=>e = .returned (.pointer (some a))∧SB h w' cs us fu ne evs d∧SvF5 h.L w w':=by
 have HT:=take_v x (by simp;omega) 1 us.length (by decide) (by simp);rw[show ((1:Nat):Int)=1 from rfl] at HT;have HT:=zh HT;clear x
 go_enter Tryz.func26,Tryz.ntmps26
 go_wp2_with (go_at_call 60;refine Calls.mono (zu HT) ?_;rintro e w1 ⟨⟨vb,tc,rfl,htc,hcell⟩,hs,hf⟩;have k0:=hcell 0 a (by simp);rw[Nat.add_zero] at k0;rw[List.take_left] at hs;have HS:=zh hs;have HF:=zh hf;clear hs hf hcell)
 go_ret;exact⟨rfl,zu HS,zu HF⟩
end V
namespace V
variable {w w' w2:World} {h:SHd} {cs:List (Nat × Nat × Nat)} {ads:List Addr} {fu:Int} {ne:Nat} {evs:List Value} {d:SAd}
theorem clC_len (bs:List (Nat × Nat × Nat)):(bs.flatMap clC).length=bs.length * 3:=by
 induction bs with
 | nil=>rfl
 | cons c bs ih=>rw[List.flatMap_cons,List.length_append,ih,List.length_cons];simp;omega
theorem SB.setAt {bs:List (Nat × Nat × Nat)} {fn pc base cb:Nat} (x:SB h w (bs++[(fn,pc,base)]) ads fu ne evs d) (hca:d.ca=some ⟨cb,0,none⟩) (q:Nat):SB h (w.setCell ⟨cb,bs.length * 3+1,none⟩ (.int .i64 (q:Int))) (bs++[(fn,q,base)]) ads fu ne evs d∧SvF5 h.L w (w.setCell ⟨cb,bs.length * 3+1,none⟩ (.int .i64 (q:Int))):=by
 obtain⟨ca,cc,va,vc,ea,ec⟩:=d;simp only at hca;subst hca;have hB:=(x.oc.lt cb rfl).1;have hlg:=x.lg;have hlr:=x.lr;have hrow:∃ cur,w.heap[cb]? = some (.cells cur 138 (0,0)):=by
  rcases id x.oc.2 with⟨e,e0⟩ | ⟨b,cap,cur,e,hb,hg,_⟩
  ·cases e
  ·simp only[Value.slice.injEq,Option.some.injEq,Addr.mk.injEq] at e
   obtain⟨⟨e,-⟩,-⟩:=e;subst e;exact⟨cur,hg⟩
 obtain⟨cur,hrow⟩:=hrow;have ap:∀ {e:TypeId} {size n:Nat} {v:Value} {xs:List Value},w.ownsRow h.B e size v n xs→e≠138→(w.setCell ⟨cb,bs.length * 3+1,none⟩ (.int .i64 (q:Int))).ownsRow h.B e size v n xs:=fun ho hne=>own_keepM ho (fun b hb=>by
  rcases own_twoM ho x.oc hne with e | e
  ·rw[e] at hb;cases hb
  ·exact Below.heap_setCell _ _ _ _ (fun e2=>e (by rw[hb];show some b=some cb;exact congrArg some e2)))
 refine⟨⟨(Below.heap_setCell _ _ _ _ (by show h.g≠cb;omega)).trans (by have:=x.row;simpa using this),(Below.heap_setCell _ _ _ _ (by show h.r≠cb;omega)).trans x.rcd,?_,ap x.ov (by decide),ap x.oe (by decide),x.lg,x.lr,by simpa [World.setCell] using x.lb⟩,(SvF5.refl _ _).set hrow (Or.inr (Or.inr (Or.inl rfl))) (by omega) _ _⟩;have ho:=own_setM x.oc (bs.length * 3+1) (.int .i64 (q:Int));have e:((bs++[(fn,pc,base)]).flatMap clC).set (bs.length * 3+1) (.int .i64 (q:Int))=(bs++[(fn,q,base)]).flatMap clC:=by
  rw[List.flatMap_append,List.flatMap_append,List.set_append_right _ _ (by rw[clC_len];omega),clC_len]
  congr 1
  rw[show bs.length * 3+1 - bs.length * 3=1 by omega];simp
 rw[e] at ho
 simpa using ho
theorem SB.setV {vb:Nat} (x:SB h w cs ads fu ne evs d) (hva:d.va=some ⟨vb,0,none⟩) (i:Nat) (a:Addr):SB h (w.setCell ⟨vb,i,none⟩ (.pointer (some a))) cs (ads.set i a) fu ne evs d∧SvF5 h.L w (w.setCell ⟨vb,i,none⟩ (.pointer (some a))):=by
 obtain⟨ca,cc,va,vc,ea,ec⟩:=d;simp only at hva;subst hva;have hB:=(x.ov.lt vb rfl).1;have hlg:=x.lg;have hlr:=x.lr;have hrow:∃ cur,w.heap[vb]? = some (.cells cur 53 (0,0)):=by
  rcases id x.ov.2 with⟨e,e0⟩ | ⟨b,cap,cur,e,hb,hg,_⟩
  ·cases e
  ·simp only[Value.slice.injEq,Option.some.injEq,Addr.mk.injEq] at e
   obtain⟨⟨e,-⟩,-⟩:=e;subst e;exact⟨cur,hg⟩
 obtain⟨cur,hrow⟩:=hrow;have ap:∀ {e:TypeId} {size n:Nat} {v:Value} {xs:List Value},w.ownsRow h.B e size v n xs→e≠53→(w.setCell ⟨vb,i,none⟩ (.pointer (some a))).ownsRow h.B e size v n xs:=fun ho hne=>own_keepM ho (fun b hb=>by
  rcases own_twoM ho x.ov hne with e | e
  ·rw[e] at hb;cases hb
  ·exact Below.heap_setCell _ _ _ _ (fun e2=>e (by rw[hb];show some b=some vb;exact congrArg some e2)))
 refine⟨⟨(Below.heap_setCell _ _ _ _ (by show h.g≠vb;omega)).trans (by rw[List.length_set];exact x.row),(Below.heap_setCell _ _ _ _ (by show h.r≠vb;omega)).trans x.rcd,ap x.oc (by decide),?_,ap x.oe (by decide),x.lg,x.lr,by simpa [World.setCell] using x.lb⟩,(SvF5.refl _ _).set hrow (Or.inr (Or.inr (Or.inr (Or.inl rfl)))) (by omega) _ _⟩;have ho:=own_setM x.ov i (.pointer (some a));rw[← List.map_set (f:=ptC)] at ho;rw[List.length_set];exact ho
theorem wp_oneS {P:Program} {c:Code} {Q:Exit→Act→World→Prop} {a:Act} {w:World} (h:∃ A W,Code.wp P c (Nrm (fun _ a' w'=>a' = A∧w' = W)) a w∧Q .normal A W):Code.wp P c Q a w:=by
 obtain⟨A,W,h1,h2⟩:=h;refine Code.wp_mono (fun e a' w' hq => ?_) h1;cases e <;> first | (obtain⟨rfl,rfl⟩:=hq;exact h2) | exact hq.elim
theorem nrm_outW {Q:Exit→Act→World→Prop} {a:Act} {w:World} (h:Q .normal a w):Nrm Q .normal a w:=h
end V
end Go.Proofs.YtjnpehohialmbaaGreat
