/- The reader's small steps: what stands ahead,what is taken,what fails. -/
import Derived.Deep.QuietTactic
import Derived.BigQuiet
import Derived.Defers
import Derived.BigRegion
import Derived.Deep.MidRow
import Derived.Deep.RegionLawGrows
import Derived.Test.YtjnpehohialmbaaGreatZs2
set_option linter.unusedSimpArgs false
set_option linter.unusedVariables false
set_option maxRecDepth 10000
namespace Go.Proofs.YtjnpehohialmbaaGreat
open Go.RowKit
section
theorem flat_at:∀ (ts:List Tk) (k:Nat) (x:Tk),ts[k]? = some x→(ts.flatMap tkC)[k * 4]? = some (.int .i64 x.k)∧(ts.flatMap tkC)[k * 4+1]? = some (.string x.t)∧(ts.flatMap tkC)[k * 4+2]? = some (.int .i64 x.n)∧(ts.flatMap tkC)[k * 4+3]? = some (.int .i64 x.o)
 | [],k,x,h=>by simp at h
 | y :: r,0,x,h=>by
  simp only[List.getElem?_cons_zero,Option.some.injEq] at h;subst h;exact⟨rfl,rfl,rfl,rfl⟩
 | y :: r,k+1,x,h=>by
  rw[List.getElem?_cons_succ] at h;obtain⟨h0,h1,h2,h3⟩:=flat_at r k x h;have e:∀ i,((y :: r).flatMap tkC)[(k+1) * 4+i]? = (r.flatMap tkC)[k * 4+i]?:=by
   intro i;rw[List.flatMap_cons,List.getElem?_append_right (by show 4≤_;omega)]
   congr 1
   show (k+1) * 4+i - 4=_;omega
  exact⟨by rw[show (k+1) * 4=(k+1) * 4+0 by omega,e];exact h0,by rw[e];exact h1,by rw[e];exact h2,by rw[e];exact h3⟩
theorem Sl.at {w:World} {g:Nat} {T:Value} {ts:List Tk} (h:Sl w g T ts) (m:Nat) (hm:m < ts.length):∃ (b off cap:Nat) (x:Tk),T = .slice (some ⟨b,off,none⟩) ts.length cap∧b < g∧ts.length≤cap∧cap≤9223372036854775807∧hdT ts m=x ∧
  w.cell? ⟨b,off+m * 4,none⟩=some (.int .i64 x.k)∧w.cell? ⟨b,off+m * 4+1,none⟩=some (.string x.t)∧w.cell? ⟨b,off+m * 4+2,none⟩=some (.int .i64 x.n)∧w.cell? ⟨b,off+m * 4+3,none⟩=some (.int .i64 x.o):=by
 obtain⟨a,cap,rfl,h1,h2,h3⟩:=h;rcases h3 with rfl | ⟨b,off,rfl,hb,hc⟩
 ·simp at hm
 ·obtain⟨x,hx⟩:∃ x,ts[m]? = some x:=⟨_,List.getElem?_eq_getElem hm⟩
  obtain⟨f0,f1,f2,f3⟩:=flat_at ts m x hx;refine⟨b,off,cap,x,rfl,hb,h1,h2,by unfold hdT;rw[hx];rfl,hc _ _ f0,?_,?_,?_⟩
  ·have:=hc _ _ f1;rw[← Nat.add_assoc] at this;exact this
  ·have:=hc _ _ f2;rw[← Nat.add_assoc] at this;exact this
  ·have:=hc _ _ f3;rw[← Nat.add_assoc] at this;exact this
end
section
theorem gen_world {F:World→Prop} {w:World} (h:∀ W2,W2=w→F W2):F w:=h _ rfl
end
section
mutual
/-- The world holds the tree p as the Go value v;the blocks in which its lists lie are F's. -/
def RepN (w:World) (F:Nat→Prop):PN→Value→Prop
 | .mk k o s n l,v => ∃ (a:Option Addr) (cap:Nat),v = .agg #[.int .i64 k,.int .i64 o,.string s,.int .i64 n,.slice a l.length cap]∧l.length≤cap∧RepNL w F l a
/-- From the address a on the world holds the trees of l,five cells each. -/
def RepNL (w:World) (F:Nat→Prop):List PN→Option Addr→Prop
 | [],_=>True
 | x :: xs,a => ∃ b off c0 c1 c2 c3 c4,a=some ⟨b,off,none⟩∧F b∧RepN w F x (.agg #[c0,c1,c2,c3,c4]) ∧
   w.cell? ⟨b,off,none⟩=some c0∧w.cell? ⟨b,off+1,none⟩=some c1∧w.cell? ⟨b,off+2,none⟩=some c2∧w.cell? ⟨b,off+3,none⟩=some c3∧w.cell? ⟨b,off+4,none⟩=some c4 ∧
   RepNL w F xs (some ⟨b,off+5,none⟩)
end
mutual
theorem RepN.to {w w':World} {F F':Nat→Prop} (h:∀ b,F b→F' b∧w'.heap[b]? = w.heap[b]?):∀ (p:PN) (v:Value),RepN w F p v→RepN w' F' p v
 | .mk k o s n l,v,hr=>by
  rw[RepN] at hr ⊢;obtain⟨a,cap,hv,hb,hl⟩:=hr;exact⟨a,cap,hv,hb,RepNL.to h l a hl⟩
theorem RepNL.to {w w':World} {F F':Nat→Prop} (h:∀ b,F b→F' b∧w'.heap[b]? = w.heap[b]?):∀ (l:List PN) (a:Option Addr),RepNL w F l a→RepNL w' F' l a
 | [],a,_=>by simp[RepNL]
 | x :: xs,a,hr=>by
  rw[RepNL] at hr ⊢;obtain⟨b,off,c0,c1,c2,c3,c4,rfl,hf,hx,h0,h1,h2,h3,h4,hxs⟩:=hr;have hc:∀ o,w'.cell? ⟨b,o,none⟩=w.cell? ⟨b,o,none⟩:=fun o=>World.cell?_of_block (w:=w) (h b hf).2;exact⟨b,off,c0,c1,c2,c3,c4,rfl,(h b hf).1,RepN.to h x _ hx,by rw[hc];exact h0,by rw[hc];exact h1,by rw[hc];exact h2,by rw[hc];exact h3,by rw[hc];exact h4,RepNL.to h xs _ hxs⟩
end
def Fr (base top:Nat):Nat→Prop:=fun b=>base≤b∧b < top
abbrev nodV (k o:Int) (s:ByteArray) (n:Int) (l:Value):Value:=.agg #[.int .i64 k,.int .i64 o,.string s,.int .i64 n,l]
abbrev nodO (k o:Int) (s:ByteArray) (n:Int) (l:Value):Obj:=.cells #[.int .i64 k,.int .i64 o,.string s,.int .i64 n,l] 46 (0,0)
abbrev set5 (w:World) (g:Nat) (k o:Int) (s:ByteArray) (n:Int) (l:Value):World :=
 ((((w.setCell ⟨g,0,none⟩ (.int .i64 k)).setCell ⟨g,1,none⟩ (.int .i64 o)).setCell ⟨g,2,none⟩ (.string s)).setCell ⟨g,3,none⟩ (.int .i64 n)).setCell ⟨g,4,none⟩ l
theorem Gr.set5 {g:Nat} {a w:World} (h:Gr g a w) {b:Nat} (hb:a.heap.size≤b) (k o:Int) (s:ByteArray) (n:Int) (l:Value):Gr g a (set5 w b k o s n l) :=
 ((((h.set (Or.inl hb) _).set (Or.inl hb) _).set (Or.inl hb) _).set (Or.inl hb) _).set (Or.inl hb) _
theorem set5_row {w:World} {g:Nat} {k0 o0 n0:Int} {s0:ByteArray} {l0:Value} (h:w.heap[g]? = some (nodO k0 o0 s0 n0 l0)) (k o:Int) (s:ByteArray) (n:Int) (l:Value):(set5 w g k o s n l).heap[g]? = some (nodO k o s n l) :=
 row_set (row_set (row_set (row_set (row_set h 0 _) 1 _) 2 _) 3 _) 4 _
theorem set5_block {w:World} {b:Nat} {x:Nat} (hx:x≠b) (k o:Int) (s:ByteArray) (n:Int) (l:Value):(set5 w b k o s n l).heap[x]? = w.heap[x]?:=by
 rw[Below.heap_setCell _ _ _ _ hx,Below.heap_setCell _ _ _ _ hx,Below.heap_setCell _ _ _ _ hx,Below.heap_setCell _ _ _ _ hx,Below.heap_setCell _ _ _ _ hx]
theorem set5_size (w:World) (b:Nat) (k o:Int) (s:ByteArray) (n:Int) (l:Value):(set5 w b k o s n l).heap.size=w.heap.size:=by
 simp[World.setCell]
end
section
section
variable {P:Program} {w:World}
theorem run_append_where (base:Nat) (t ty e:TypeId) (i:TypeInfo) (z:Value) (size bytes:Nat) (ht:P.underlying t=some (.slice e)) (hi:P.info? e=some i) (hz:i.zero=some z)
  (hsize:i.size=size) (hby:i.bytes=bytes) (hzs:z.cells.size=size) (hsz:0 < size)
  (ao:Option Addr) (n cap:Nat) (xs:List Value) (hown:w.ownsRow base e size (.slice ao n cap) n xs)
  (a:Addr) (m c:Nat) (news:List Value) (hm:0 < m) (hl:news.length=m * size) (hnews:∀ j u,news[j]? = some u→w.cell? (a.add j)=some u) (h1:∀ u ∈ news,u.oneCell' = true)
  (h63:n+m≤maxLen) (hbytes:(n+m) * bytes≤140737488355328) (hbase:base≤w.heap.size) :
  ∃ g' cap' w',(Builtin.append_ #[t,t] ty #[.slice ao n cap,.slice (some a) m c]).run P w = .ok (.slice (some ⟨g',0,none⟩) (n+m) cap') w'∧w'.ownsRow base e size (.slice (some ⟨g',0,none⟩) (n+m) cap') (n+m) (xs++news) ∧
   w.grownBy w' (Value.slice ao n cap).ownBlock∧((Value.slice ao n cap).ownBlock=some g'∨w.heap.size≤g'):=by
 obtain⟨v',w',hrun,ho,hg,_⟩:=run_append_own (P:=P) w base t ty e i z size bytes ht hi hz hsize hby hzs hsz (.slice ao n cap) n xs hown a m c news hl hnews h1 h63 hbytes hbase;have hv:∃ g' cap',v' = .slice (some ⟨g',0,none⟩) (n+m) cap':=by
  rcases ho.2 with⟨_,h0⟩ | ⟨g',cap',cur,hv,_⟩
  ·omega
  ·exact⟨g',cap',hv⟩
 obtain⟨g',cap',rfl⟩:=hv;refine⟨g',cap',w',hrun,ho,hg,?_⟩;rcases hown.2 with⟨hn,h0⟩ | ⟨g,cap2,cur,hn,hb,hgg,hnc,hcm,hcs,htake⟩
 ·injection hn with e1 e2 e3
  subst e1 e2 e3;obtain⟨v2,w2,hrun2,ho2,_⟩:=run_append_own (P:=P) w w.heap.size t ty e i z size bytes ht hi hz hsize hby hzs hsz (.slice none 0 0) 0 [] (World.ownsRow_nil w _ e size) a m c news hl hnews h1 h63 hbytes (Nat.le_refl _);rw[hrun] at hrun2;injection hrun2 with e1 e2;subst e1;have:=ho2.lt g' rfl;exact Or.inr this.1
 ·injection hn with e1 e2 e3
  subst e1 e3;by_cases hr:n+m≤cap
  ·subst hsize
   have hrun2:=run_append_room (P:=P) w t ty e i ht hi g n cap cur hgg a m c news hl hnews h1 hr (by rw[hl,← Nat.add_mul,hcs];exact Nat.mul_le_mul_right _ hr);rw[hrun] at hrun2;injection hrun2 with e1 e2;injection e1 with e1 _ _;injection e1 with e1;injection e1 with e1;subst e1;exact Or.inl rfl
  ·obtain⟨v2,w2,hrun2,ho2,_⟩:=run_append_arg_grows (P:=P) w t ty e i z size bytes ht hi hz hsize hby hzs hsz ⟨g,0,none⟩ n cap xs hown.1 (hown.cells rfl) a m c news hl hnews (by omega) h63 hbytes
   rw[hrun] at hrun2;injection hrun2 with e1 e2;subst e1;have:=ho2.lt g' rfl;exact Or.inr this.1
theorem step_append_where {ops:Array Oper} {o:Oper} {a:Act} {K:Act→World→Prop} {Q:Exit→Act→World→Prop} {E:Prop}
  (hg:o.guard=none) (s x:Operand) (t:TypeId) (hop:o.op=Op.call { callee:=Callee.builtin Builtin.append,args:=#[s,x],argTypes:=#[t,t] })
  (base:Nat) (e:TypeId) (i:TypeInfo) (z:Value) (size bytes:Nat) (ht:P.underlying t=some (.slice e)) (hi:P.info? e=some i) (hz:i.zero=some z)
  (hsize:i.size=size) (hby:i.bytes=bytes) (hzs:z.cells.size=size) (hsz:0 < size)
  (ao:Option Addr) (n cap:Nat) (xs:List Value) (hs:a.eval s = .slice ao n cap) (hown:w.ownsRow base e size (.slice ao n cap) n xs)
  (ad:Addr) (m c:Nat) (news:List Value) (hx:a.eval x = .slice (some ad) m c) (hm:0 < m) (hl:news.length=m * size) (hnews:∀ j u,news[j]? = some u→w.cell? (ad.add j)=some u) (h1:∀ u ∈ news,u.oneCell' = true)
  (h63:n+m≤maxLen) (hbytes:(n+m) * bytes≤140737488355328) (hbase:base≤w.heap.size)
  (hK:∀ g' cap' w',w'.ownsRow base e size (.slice (some ⟨g',0,none⟩) (n+m) cap') (n+m) (xs++news)→w.grownBy w' (Value.slice ao n cap).ownBlock→((Value.slice ao n cap).ownBlock=some g'∨w.heap.size≤g')→K (a.put o.dst (.slice (some ⟨g',0,none⟩) (n+m) cap')) w') :
  if Region.wanted o (yielded ops a.tmps)=true then Oper.wp P o a w K Q else E:=by
 have hw:Region.wanted o (yielded ops a.tmps)=true:=by simp[Region.wanted,hg]
 rw[if_pos hw];obtain⟨g',cap',w',hrun,r1,r2,r3⟩:=run_append_where (P:=P) (w:=w) base t o.type e i z size bytes ht hi hz hsize hby hzs hsz ao n cap xs hown ad m c news hm hl hnews h1 h63 hbytes hbase;unfold Oper.wp;simp[execOp,hop,resolve,invoke,builtin,hs,hx,hrun,Result.andThen];exact hK g' cap' w' r1 r2 r3
theorem wpList_append_where {ops:Array Oper} {rest:List Oper} {o:Oper} {a:Act} {Q:Exit→Act→World→Prop} (hgd:o.guard=none) (s x:Operand) (t:TypeId)
  (hop:o.op = .call { callee:=.builtin .append,args:=#[s,x],argTypes:=#[t,t] })
  (base:Nat) (e:TypeId) (i:TypeInfo) (z:Value) (size bytes:Nat) (ht:P.underlying t=some (.slice e)) (hi:P.info? e=some i) (hz:i.zero=some z)
  (hsize:i.size=size) (hby:i.bytes=bytes) (hzs:z.cells.size=size) (hsz:0 < size)
  (ao:Option Addr) (n cap:Nat) (xs:List Value) (hs:a.eval s = .slice ao n cap) (hown:w.ownsRow base e size (.slice ao n cap) n xs)
  (ad:Addr) (m c:Nat) (news:List Value) (hx:a.eval x = .slice (some ad) m c) (hm:0 < m) (hl:news.length=m * size) (hnews:∀ j u,news[j]? = some u→w.cell? (ad.add j)=some u) (h1:∀ u ∈ news,u.oneCell' = true)
  (h63:n+m≤maxLen) (hbytes:(n+m) * bytes≤140737488355328) (hbase:base≤w.heap.size)
  (h:∀ g' cap' w',w'.ownsRow base e size (.slice (some ⟨g',0,none⟩) (n+m) cap') (n+m) (xs++news)→w.grownBy w' (Value.slice ao n cap).ownBlock→((Value.slice ao n cap).ownBlock=some g'∨w.heap.size≤g')→wpList P ops Q rest (a.put o.dst (.slice (some ⟨g',0,none⟩) (n+m) cap')) w'):wpList P ops Q (o :: rest) a w:=by
 refine wpList_plain hgd fun K hK => ?_;obtain⟨g',cap',w',hrun,r1,r2,r3⟩:=run_append_where (P:=P) (w:=w) base t o.type e i z size bytes ht hi hz hsize hby hzs hsz ao n cap xs hown ad m c news hm hl hnews h1 h63 hbytes hbase;unfold Oper.wp;simp[execOp,hop,resolve,invoke,builtin,hs,hx,hrun,Result.andThen];exact hK _ _ (h g' cap' w' r1 r2 r3)
theorem step_call_one {ops:Array Oper} {o:Oper} {a:Act} {K:Act→World→Prop} {Q:Exit→Act→World→Prop} {E:Prop}
  (hg:o.guard=none) (f:FuncId) (x:Operand) (t:TypeId) (hop:o.op=Op.call { callee:=Callee.value (.func f),args:=#[x],argTypes:=#[t] })
  (v:Value) (hx:a.eval x=v) (hf:(callFunc f #[v]).run P w = .ok (.enter f #[v]) w) (hK:Calls P f #[v] w fun e w' => ∃ u,e = .returned u∧K (a.put o.dst u) w') :
  if Region.wanted o (yielded ops a.tmps)=true then Oper.wp P o a w K Q else E:=by
 have hw:Region.wanted o (yielded ops a.tmps)=true:=by simp[Region.wanted,hg]
 rw[if_pos hw];have he:a.eval (.func f) = .func (.func f) #[] #[]:=rfl;unfold Oper.wp;have hrun:(execOp a.eval o).run P w = .ok (.enter f #[v]) w:=by
  simp[execOp,hop,resolve,invoke,hx,he,Result.andThen,Deferred.ofValue,hf]
 rw[hrun,Oper.upon_enter];refine hK.mono ?_;rintro e w' ⟨u,rfl,h⟩;exact h
end
abbrev ndC (p:PN) (a:Option Addr) (cap:Nat):List Value:=[.int .i64 p.k,.int .i64 p.o,.string p.s,.int .i64 p.n,.slice a p.l.length cap]
def RowN (w:World) (F:Nat→Prop):List PN→List Value→Prop
 | [],xs=>xs = []
 | p :: ps,xs => ∃ a cap rest,xs=ndC p a cap++rest∧p.l.length≤cap∧RepNL w F p.l a∧RowN w F ps rest
theorem RowN.to {w w':World} {F F':Nat→Prop} (h:∀ b,F b→F' b∧w'.heap[b]? = w.heap[b]?):∀ {ps:List PN} {xs:List Value},RowN w F ps xs→RowN w' F' ps xs:=by
 intro ps
 induction ps with
 | nil=>intro xs hx;exact hx
 | cons p ps ih =>
  intro xs hx;obtain⟨a,cap,rest,e,hb,hl,hr⟩:=hx;exact⟨a,cap,rest,e,hb,RepNL.to h _ _ hl,ih hr⟩
theorem RowN.snoc {w:World} {F:Nat→Prop} {p:PN} {a:Option Addr} {cap:Nat} (hb:p.l.length≤cap) (hl:RepNL w F p.l a) :
  ∀ {ps:List PN} {xs:List Value},RowN w F ps xs→RowN w F (ps++[p]) (xs++ndC p a cap):=by
 intro ps
 induction ps with
 | nil =>
  intro xs hx;have:xs = []:=hx;subst this;exact⟨a,cap,[],by simp,hb,hl,rfl⟩
 | cons q ps ih =>
  intro xs hx;obtain⟨a',cap',rest,e,hb',hl',hr⟩:=hx;exact⟨a',cap',rest++_,by rw[e];simp,hb',hl',ih hr⟩
theorem RowN.repL {w:World} {F:Nat→Prop} {g:Nat} (hF:F g):∀ {ps:List PN} {xs:List Value} {off:Nat},RowN w F ps xs→(∀ j u,xs[j]? = some u→w.cell? ⟨g,off+j,none⟩=some u)→RepNL w F ps (some ⟨g,off,none⟩):=by
 intro ps
 induction ps with
 | nil=>intro xs off _ _;simp[RepNL]
 | cons p ps ih =>
  intro xs off hx hc;obtain⟨a,cap,rest,e,hb,hl,hr⟩:=hx;subst e;cases p with
  | mk k o s n l =>
  rw[RepNL];refine⟨g,off,_,_,_,_,_,rfl,hF,?_,by simpa using hc 0 _ rfl,hc 1 _ rfl,hc 2 _ rfl,hc 3 _ rfl,hc 4 _ rfl,ih hr fun j u hu => ?_⟩
  ·rw[RepN];exact⟨a,cap,rfl,hb,hl⟩
  ·have:=hc (5+j) u (by rw[List.getElem?_append_right (by simp)];simpa using hu)
   rw[Nat.add_assoc];exact this
theorem infoN:(Tryz.prog.info? 46).map (fun i=>(i.zero,i.size,i.bytes))=some (some (nodV 0 0 zE 0 (.slice none 0 0)),5,64):=by kernel_rfl
structure Hold (g:Nat) (w wr:World) (ps:List PN) (ao:Option Addr) (cap:Nat):Prop where
 gr:Gr g w wr
 own:∃ xs,wr.ownsRow w.heap.size 46 5 (.slice ao ps.length cap) ps.length xs∧RowN wr (fun b=>w.heap.size≤b∧b < wr.heap.size∧some b≠(Value.slice ao ps.length cap).ownBlock) ps xs
theorem Gr.grown {g:Nat} {w w':World} (k:Gr g w w'):w.grownBy w' (some g):=⟨k.os,k.tape,k.output,k.size,fun i hi hne=>k.block i hi (fun e=>hne (by rw[e]))⟩
theorem own_gr {a b:World} {g base:Nat} {e:TypeId} {size:Nat} {v:Value} {n:Nat} {xs:List Value} (h:a.ownsRow base e size v n xs) (k:Gr g a b) (hg:g < base):b.ownsRow base e size v n xs :=
 h.kept k.grown (by
  cases hv:v.ownBlock with
  | none=>exact Or.inl rfl
  | some x=>exact Or.inr (fun e=>by have:=(h.lt x hv).1;injection e with e;omega))
theorem Hold.start {g:Nat} {w wr:World} (h:Gr g w wr):Hold g w wr [] none 0:=⟨h,[],World.ownsRow_nil _ _ _ _,rfl⟩
theorem Hold.on {g:Nat} {w wr w2:World} {ps:List PN} {ao:Option Addr} {cap:Nat} (h:Hold g w wr ps ao cap) (k:Gr g wr w2) (hg:g < w.heap.size):Hold g w w2 ps ao cap:=by
 obtain⟨xs,ho,hr⟩:=h.own;exact⟨h.gr.trans k,xs,own_gr ho k hg,RowN.to (fun b hb=>⟨⟨hb.1,Nat.lt_of_lt_of_le hb.2.1 k.size,hb.2.2⟩,k.block b hb.2.1 (by have:=hb.1;omega)⟩) hr⟩
theorem Hold.snoc {g:Nat} {w w2 w3:World} {ps:List PN} {ao:Option Addr} {cap g' cap':Nat} {p:PN} {a:Option Addr} {c:Nat} {xs:List Value} (hgr:Gr g w w2) (hg:g < w.heap.size)
  (hown:w2.ownsRow w.heap.size 46 5 (.slice ao ps.length cap) ps.length xs)
  (hx:RowN w2 (fun b=>w.heap.size≤b∧b < w2.heap.size∧some b≠(Value.slice ao ps.length cap).ownBlock) ps xs)
  (ho:w3.ownsRow w.heap.size 46 5 (.slice (some ⟨g',0,none⟩) (ps.length+1) cap') (ps.length+1) (xs++ndC p a c))
  (hb:p.l.length≤c) (hp:RepNL w2 (fun b=>w.heap.size≤b∧b < w2.heap.size∧some b≠(Value.slice ao ps.length cap).ownBlock) p.l a)
  (hgw:w2.grownBy w3 (Value.slice ao ps.length cap).ownBlock) (hw:(Value.slice ao ps.length cap).ownBlock=some g'∨w2.heap.size≤g') :
  Hold g w w3 (ps++[p]) (some ⟨g',0,none⟩) cap':=by
 have hlen:(ps++[p]).length=ps.length+1:=by simp
 have hF:∀ b,(w.heap.size≤b∧b < w2.heap.size∧some b≠(Value.slice ao ps.length cap).ownBlock) →
   (w.heap.size≤b∧b < w3.heap.size∧some b≠(Value.slice (some ⟨g',0,none⟩) (ps++[p]).length cap').ownBlock)∧w3.heap[b]? = w2.heap[b]?:=by
  intro b hb;refine⟨⟨hb.1,Nat.lt_of_lt_of_le hb.2.1 hgw.size,?_⟩,hgw.block b hb.2.1 hb.2.2⟩;intro e;simp only[Value.ownBlock,Option.some.injEq] at e;rcases hw with e2 | e2
  ·exact hb.2.2 (by rw[e2,e])
  ·omega
 have hne:∀ k,k < w.heap.size→some k≠(Value.slice ao ps.length cap).ownBlock:=fun k hk e=>by have:=(hown.lt k e.symm).1;omega
 refine⟨⟨hgw.os.trans hgr.os,hgw.tape.trans hgr.tape,hgw.output.trans hgr.output,Nat.le_trans hgr.size hgw.size,fun k hk hk2=>(hgw.block k (Nat.lt_of_lt_of_le hk hgr.size) (hne k hk)).trans (hgr.block k hk hk2)⟩,_,by rw[hlen];exact ho,RowN.snoc hb (RepNL.to hF _ _ hp) (RowN.to hF hx)⟩
theorem cells_own {w:World} {base:Nat} {e:TypeId} {size n cap g:Nat} {xs:List Value} (h:w.ownsRow base e size (.slice (some ⟨g,0,none⟩) n cap) n xs):∀ j u,xs[j]? = some u→w.cell? ⟨g,0+j,none⟩=some u:=by
 intro j u hu;have:=h.cells (g:=g) rfl j u hu;rw[add0] at this;rw[Nat.zero_add];exact this
theorem Hold.done {g:Nat} {w wr:World} {ps:List PN} {ao:Option Addr} {cap:Nat} (h:Hold g w wr ps ao cap):ps.length≤cap∧RepNL wr (Fr w.heap.size wr.heap.size) ps ao:=by
 obtain⟨xs,ho,hr⟩:=h.own;obtain⟨hlen,⟨e,h0⟩ | ⟨b,cap2,cur,e,hb,hrow,hc,_⟩⟩:=id ho
 ·have:ps = []:=List.length_eq_zero_iff.1 h0
  subst this;exact⟨Nat.zero_le _,by simp[RepNL]⟩
 ·injection e with e1 e2 e3
  subst e1 e3;refine⟨hc,RowN.repL (g:=b) ⟨hb,(Array.getElem?_eq_some_iff.1 hrow).1⟩ (RowN.to (fun x hx=>⟨⟨hx.1,hx.2.1⟩,rfl⟩) hr) (cells_own ho)⟩
end
section
theorem takeS_len (st:PS) (s:ByteArray):(st.takeS s).2.ts.length≤st.ts.length∧((st.takeS s).1=true→st.ts = []∨(st.takeS s).2.ts.length < st.ts.length):=by
 unfold PS.takeS
 split
 ·refine⟨by simp[PS.next],fun _ => ?_⟩
  cases h:st.ts with
  | nil=>exact Or.inl rfl
  | cons t r=>right;simp[PS.next,h]
 ·exact⟨Nat.le_refl _,fun h=>by cases h⟩
theorem isS_ne {st:PS} {s:ByteArray} (h:st.isS s=true):st.ts≠[]:=by
 intro e;unfold PS.isS isT at h;rw[e] at h;exact absurd h (by simp[hdT,tkZ])
theorem one_cells (k o:Int) (s:ByteArray) (n:Int) (a:Option Addr) (L cap:Nat):∀ u ∈ ([.int .i64 k,.int .i64 o,.string s,.int .i64 n,.slice a L cap]:List Value),u.oneCell' = true:=by
 intro u hu;simp at hu;rcases hu with rfl | rfl | rfl | rfl | rfl <;> rfl
theorem held_on {g:Nat} {w wr w2:World} {acc:List PN} {v:Value} {n:Nat} {xs:List Value} (hx:wr.ownsRow w.heap.size 46 5 v n xs∧RowN wr (fun b=>w.heap.size≤b∧b < wr.heap.size∧some b≠v.ownBlock) acc xs) (x:Gr g wr w2) (hg:g < w.heap.size) :
  w2.ownsRow w.heap.size 46 5 v n xs∧RowN w2 (fun b=>w.heap.size≤b∧b < w2.heap.size∧some b≠v.ownBlock) acc xs :=
 ⟨own_gr hx.1 x hg,RowN.to (fun b hb=>⟨⟨hb.1,Nat.lt_of_lt_of_le hb.2.1 x.size,hb.2.2⟩,x.block b hb.2.1 (by have:=hb.1;omega)⟩) hx.2⟩
theorem next_lt {st:PS} {s:ByteArray} (h:st.isS s=true):st.next.ts.length < st.ts.length:=by
 have:=isS_ne h;cases e:st.ts with
 | nil=>exact absurd e this
 | cons t r=>simp[PS.next,e]
end
end Go.Proofs.YtjnpehohialmbaaGreat
