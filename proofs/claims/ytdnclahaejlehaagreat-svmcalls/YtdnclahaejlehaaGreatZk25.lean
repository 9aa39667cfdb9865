/- The document's way through any tree that was read;when two functions have one name. · A function: what its names mean. · What the names of all functions mean. · Check by the document: what it tells of names;the row of what it found. · What the names of all functions mean. -/
import Derived.Test.YtdnclahaejlehaaGreatZk24
import Derived.Test.YtdnclahaejlehaaGreatZk23
import Derived.Deep.LoopGhost
set_option linter.unusedSimpArgs false
set_option linter.unusedVariables false
set_option maxRecDepth 10000
namespace Go.Proofs.YtdnclahaejlehaaGreat
open Go.RowKit
section
open Go.RowKit Go.Maps
variable {g:Nat} {fv:Value} {fs:List PFn}
theorem len_nszL:∀ (l:List PN),l.length≤nszL l
 | []=>Nat.zero_le _
 | p :: l=>by rw[nszL,List.length_cons];have:=nsz_pos p;have:=len_nszL l;omega
theorem walk_all (hfl:fs.length≤100000) (hps:∀ p ∈ fs,p.ps.length≤100000):∀ (F:Nat) (p:PN),nsz p≤F→gX p→WkOf g fv fs F p:=by
 intro F
 induction F with
 | zero=>intro p h;have:=nsz_pos p;omega
 | succ F ih =>
  intro p hF hg w d v h hr b1 b2 b3 b4 b5 b6 b7;by_cases he:d.e=0
  case neg=>exact walk_bad h hr he
  obtain⟨_,hw4,hw5⟩:=hg.props;have hone:∀ x ∈ p.l,WkOf g fv fs F x:=fun x hx=>ih x (by have h1:=nszL_mem hx;have h2:nsz p=1+nszL p.l:=(by cases p;rw[nsz]);omega) (hg.sub hx);obtain⟨k,o,s,n,l⟩:=p;rw[nsz] at b1 b2 b3 b5 b7;have hll:=len_nszL l;simp only at hw4 hw5 hone;by_cases h4:k=4
  ·obtain⟨c,b,rfl,_⟩:=hw4 h4
   subst h4;have hz:nszL [c,b]=nsz c+nsz b:=by rw[nszL,nszL,nszL];omega
   rw[hz] at b1 b2 b3 b5 b7;exact walk_while (hone c (by simp)) (hone b (by simp)) h hr he (by omega) (by omega) (by omega) b4 (by omega) b6 (by omega)
  by_cases h5:k=5∨k=6
  ·rcases h5 with rfl | rfl
   ·exact walk_leave5 h hr he
   ·exact walk_leave6 h hr he
  have e:dW fs (F+1) ⟨k,o,s,n,l⟩ d=dEnd fs k s l.length d.see.length (l.foldl (fun d x=>dW fs F x d) (dBeg k s d)):=by
   rw[dW,if_neg (by simp[he]),if_neg h4,if_neg h5]
  rw[e];by_cases h2:k=2
  ·subst h2;exact walk_use2 hfl hps hone h hr he (by omega) (by omega) (by omega) b4 (by omega) b6 (by omega) (by omega)
  by_cases h19:k=19
  ·subst h19;exact walk_use19 hfl hps hone h hr he (by omega) (by omega) (by omega) b4 (by omega) b6 (by omega) (by omega)
  by_cases h1:k=1
  ·subst h1;exact walk_let hfl hps hone h hr he (by omega) (by omega) (by omega) b4 (by omega) b6 (by omega) (by omega)
  by_cases h10:k=10
  ·subst h10;exact walk_block hfl hps hone h hr he (by omega) (by omega) (by omega) b4 (by omega) b6 (by omega) (by omega)
  by_cases h20:k=20
  ·subst h20;exact walk_call hfl hps hone h hr he (by omega) (by omega) (by omega) b4 (by omega) b6 (by omega) (by omega)
  exact walk_other h1 (fun e=>e.elim h2 h19) h4 h5 h10 h20 hfl hps hone h hr he (by omega) (by omega) (by omega) b4 (by omega) b6 (by omega) (by omega)
def sameN (s:ByteArray) (p:PFn):Bool:=p.nm.data.toList == s.data.toList
theorem nums_bad:∀ (l:List PFn) (i:Nat) (nm0:List (ByteArray × Int)) (pre:List PFn),(∀ s,(lkp nm0 s).isSome=pre.any (sameN s))→∀ (j:Nat) (p:PFn),l[j]? = some p→((biP p.nm).isSome=true∨(pre++l.take j).any (sameN p.nm)=true)→nums l i nm0=none
 | [],i,nm0,pre,h,j,p,hp,hb=>by simp at hp
 | q :: l,i,nm0,pre,h,j,p,hp,hb=>by
  rw[nums]
  split
  ·rfl
  ·rename_i hq
   refine nums_bad l (i+1) _ (pre++[q]) (fun s => ?_) (j - 1) p ?_ ?_
   ·rw[lkp_c,List.any_append,← h s]
    simp only[List.any_cons,List.any_nil,Bool.or_false,sameN];cases (q.nm.data.toList == s.data.toList) <;> simp
   ·cases j with
    | zero =>
     obtain rfl:q=p:=by simpa using hp
     exfalso;apply hq;rcases hb with hb | hb
     ·rw[hb];simp
     ·simp only[List.take_zero,List.append_nil] at hb
      rw[h q.nm,hb];rfl
    | succ j=>simpa using hp
   ·cases j with
    | zero =>
     obtain rfl:q=p:=by simpa using hp
     exfalso;apply hq;rcases hb with hb | hb
     ·rw[hb];simp
     ·simp only[List.take_zero,List.append_nil] at hb
      rw[h q.nm,hb];rfl
    | succ j =>
     rcases hb with hb | hb
     ·exact Or.inl hb
     ·refine Or.inr ?_
      rw[List.take_succ_cons] at hb
      simpa [List.append_assoc] using hb
theorem nums_ok:∀ (l:List PFn) (i:Nat) (nm0:List (ByteArray × Int)) (pre:List PFn),(∀ s,(lkp nm0 s).isSome=pre.any (sameN s))→(∀ (j:Nat) (p:PFn),l[j]? = some p→(biP p.nm).isSome=false∧(pre++l.take j).any (sameN p.nm)=false)→∃ nm,nums l i nm0=some nm
 | [],i,nm0,pre,h,hb=>⟨nm0,rfl⟩
 | q :: l,i,nm0,pre,h,hb=>by
  obtain⟨h1,h2⟩:=hb 0 q rfl;simp only[List.take_zero,List.append_nil] at h2;rw[nums,if_neg (by rw[h q.nm,h2,h1];decide)];refine nums_ok l (i+1) _ (pre++[q]) (fun s => ?_) (fun j p hp => ?_)
  ·rw[lkp_c,List.any_append,← h s]
   simp only[List.any_cons,List.any_nil,Bool.or_false,sameN];cases (q.nm.data.toList == s.data.toList) <;> simp
  ·obtain⟨a,b⟩:=hb (j+1) p (by simpa using hp)
   refine⟨a,?_⟩;rw[List.take_succ_cons] at b
   simpa [List.append_assoc] using b
end
section
open Go.RowKit Go.Maps
abbrev scV (lc:Int) (sa:Option Addr) (sn sc:Nat) (ca:Option Addr) (cn cc:Nat):Value:=.agg #[.int .i64 lc,.slice sa sn sc,.slice ca cn cc]
end
section
open Go.RowKit Go.Maps
def RepI (w:World) (F:Nat→Prop) (a:Option Addr) (l:List Int):Prop:=l = []∨∃ b,a=some ⟨b,0,none⟩∧F b∧∀ j x,l[j]? = some x→w.cell? ⟨b,j,none⟩=some (.int .i64 x)
theorem RepI.to {w w':World} {F F':Nat→Prop} (h:∀ b,F b→F' b∧w'.heap[b]? = w.heap[b]?) {l:List Int} {a:Option Addr} (hr:RepI w F a l):RepI w' F' a l:=by
 rcases hr with hr | ⟨b,rfl,hb,hc⟩
 ·exact Or.inl hr
 ·exact Or.inr ⟨b,rfl,(h b hb).1,fun j x hx=>by rw[World.cell?_of_block (w:=w) (h b hb).2];exact hc j x hx⟩
def RowSc (w:World) (F:Nat→Prop):List PSc→List Value→Prop
 | [],xs=>xs = []
 | p :: ps,xs => ∃ sa sc ca cc rest,xs = [.int .i64 p.lc,.slice sa p.sl.length sc,.slice ca p.cl.length cc]++rest∧p.sl.length≤sc∧RepI w F sa p.sl∧p.cl.length≤cc∧RepI w F ca p.cl∧RowSc w F ps rest
theorem RowSc.to {w w':World} {F F':Nat→Prop} (h:∀ b,F b→F' b∧w'.heap[b]? = w.heap[b]?):∀ {ps:List PSc} {xs:List Value},RowSc w F ps xs→RowSc w' F' ps xs:=by
 intro ps
 induction ps with
 | nil=>intro xs hx;exact hx
 | cons p ps ih =>
  intro xs hx;obtain⟨sa,sc,ca,cc,rest,e,h1,h2,h3,h4,hr⟩:=hx;exact⟨sa,sc,ca,cc,rest,e,h1,h2.to h,h3,h4.to h,ih hr⟩
theorem RowSc.snoc {w:World} {F:Nat→Prop} {p:PSc} {sa ca:Option Addr} {sc cc:Nat} (h1:p.sl.length≤sc) (h2:RepI w F sa p.sl) (h3:p.cl.length≤cc) (h4:RepI w F ca p.cl) :
  ∀ {ps:List PSc} {xs:List Value},RowSc w F ps xs→RowSc w F (ps++[p]) (xs++[.int .i64 p.lc,.slice sa p.sl.length sc,.slice ca p.cl.length cc]):=by
 intro ps
 induction ps with
 | nil =>
  intro xs hx;have:xs = []:=hx;subst this;exact⟨sa,sc,ca,cc,[],by simp,h1,h2,h3,h4,rfl⟩
 | cons q ps ih =>
  intro xs hx;obtain⟨sa',sc',ca',cc',rest,e,k1,k2,k3,k4,hr⟩:=hx;exact⟨sa',sc',ca',cc',rest++_,by rw[e];simp,k1,k2,k3,k4,ih hr⟩
def RepSc (w:World) (F:Nat→Prop) (ps:List PSc) (a:Option Addr):Prop :=
 ps = []∨∃ b xs,a=some ⟨b,0,none⟩∧F b∧RowSc w F ps xs∧∀ j u,xs[j]? = some u→w.cell? ⟨b,j,none⟩=some u
theorem one_sc (lc:Int) (sa:Option Addr) (sn sc:Nat) (ca:Option Addr) (cn cc:Nat):∀ u ∈ ([.int .i64 lc,.slice sa sn sc,.slice ca cn cc]:List Value),u.oneCell' = true:=by
 intro u hu;simp at hu;rcases hu with rfl | rfl | rfl <;> rfl
end
section
open Go.RowKit Go.Maps
theorem docP_bad {fs:List PFn} {j:Nat} {p:PFn} (hp:fs[j]? = some p) (hb:(biP p.nm).isSome=true∨(fs.take j).any (sameN p.nm)=true):docP fs=([],11):=by
 unfold docP;rw[nums_bad fs 0 [] [] (fun s=>rfl) j p hp (by simpa using hb)]
theorem docP_ok {fs:List PFn} (h:∀ (j:Nat) (p:PFn),fs[j]? = some p→(biP p.nm).isSome=false∧(fs.take j).any (sameN p.nm)=false):docP fs=if (dChk fs fs []).2≠0 then ([],(dChk fs fs []).2) else if mainD fs≠0 then ([],mainD fs) else ((dChk fs fs []).1,0):=by
 obtain⟨nm,hn⟩:=nums_ok fs 0 [] [] (fun s=>rfl) (fun j p hp=>by simpa using h j p hp);unfold docP;rw[hn]
theorem dChk_bad {fs l:List PFn} {i:Nat} {p:PFn} {acc:List PSc} (hp:l[i]? = some p) (h:(dFn fs p).2≠0):dChk fs (l.drop i) acc=([],(dFn fs p).2):=by
 have hlt:=(List.getElem?_eq_some_iff.1 hp).1;rw[List.drop_eq_getElem_cons hlt,(List.getElem?_eq_some_iff.1 hp).2,dChk,if_pos h]
theorem dChk_on {fs l:List PFn} {i:Nat} {p:PFn} {acc:List PSc} (hp:l[i]? = some p) (h:(dFn fs p).2=0):dChk fs (l.drop i) acc=dChk fs (l.drop (i+1)) (acc++[(dFn fs p).1]):=by
 have hlt:=(List.getElem?_eq_some_iff.1 hp).1;rw[List.drop_eq_getElem_cons hlt,(List.getElem?_eq_some_iff.1 hp).2,dChk,if_neg (by simp[h])]
theorem prmD_bad {l:List ByteArray} {k:Nat} {s:ByteArray} {see:List (ByteArray × Int)} (hs:l[k]? = some s) (h:(fnd see s).isSome=true):prmD (l.drop k) k see=none:=by
 have hlt:=(List.getElem?_eq_some_iff.1 hs).1;rw[List.drop_eq_getElem_cons hlt,(List.getElem?_eq_some_iff.1 hs).2,prmD,if_pos h]
theorem prmD_on {l:List ByteArray} {k:Nat} {s:ByteArray} {see:List (ByteArray × Int)} (hs:l[k]? = some s) (h:(fnd see s).isSome=false):prmD (l.drop k) k see=prmD (l.drop (k+1)) (k+1) (see++[(s,(k:Int))]):=by
 have hlt:=(List.getElem?_eq_some_iff.1 hs).1;rw[List.drop_eq_getElem_cons hlt,(List.getElem?_eq_some_iff.1 hs).2,prmD,if_neg (by simp[h])]
theorem rowI {w2:World} {base:Nat} {sa:Option Addr} {ns sc:Nat} {l:List Int} (h:w2.ownsRow base 3 1 (.slice sa ns sc) ns (inV l)) (hl:l.length=ns):ns≤sc∧RepI w2 (fun b=>base≤b∧b < w2.heap.size) sa l:=by
 obtain⟨hlen,⟨e,h0⟩ | ⟨b,cap2,cur,e,hb,hrow,hc,_⟩⟩:=id h
 ·exact⟨by omega,Or.inl (List.length_eq_zero_iff.1 (by omega))⟩
 ·injection e with e1 e2 e3
  subst e1 e3;refine⟨hc,Or.inr ⟨b,rfl,⟨hb,(Array.getElem?_eq_some_iff.1 hrow).1⟩,fun j x hx => ?_⟩⟩;have:=cells_own h j (.int .i64 x) (by rw[List.getElem?_map,hx];rfl);rw[Nat.zero_add] at this;exact this
structure QI (w wr:World) (acc:List PSc) (ao:Option Addr) (cap:Nat):Prop where
 ext:Ext w wr
 own:∃ xs,wr.ownsRow w.heap.size 85 3 (.slice ao acc.length cap) acc.length xs∧RowSc wr (fun b=>w.heap.size≤b∧b < wr.heap.size∧some b≠(Value.slice ao acc.length cap).ownBlock) acc xs
theorem QI.nil (w wr:World) (h:Ext w wr):QI w wr [] none 0:=⟨h,[],World.ownsRow_nil _ _ _ _,rfl⟩
theorem QI.fin {w wr:World} {acc:List PSc} {ao:Option Addr} {cap:Nat} (h:QI w wr acc ao cap):acc.length≤cap∧RepSc wr (Fr w.heap.size wr.heap.size) acc ao:=by
 obtain⟨xs,ho,hr⟩:=h.own;obtain⟨hlen,⟨e,h0⟩ | ⟨b,cap2,cur,e,hb,hrow,hc,_⟩⟩:=id ho
 ·have:acc = []:=List.length_eq_zero_iff.1 h0
  subst this;exact⟨Nat.zero_le _,Or.inl rfl⟩
 ·injection e with e1 e2 e3
  subst e1 e3;refine⟨hc,Or.inr ⟨b,xs,rfl,⟨hb,(Array.getElem?_eq_some_iff.1 hrow).1⟩,RowSc.to (fun x hx=>⟨⟨hx.1,hx.2.1⟩,rfl⟩) hr,fun j u hu => ?_⟩⟩;have:=cells_own ho j u hu;rw[Nat.zero_add] at this;exact this
theorem QI.snoc {w wr w2 wa w6:World} {fv:Value} {fs:List PFn} {d:DK} {acc:List PSc} {ao:Option Addr} {cap g:Nat} {sa ca ea:Option Addr} {ns sc nc cc ne ec g' cap':Nat} {xs:List Value} (h:QI w wr acc ao cap) (hg:wr.heap.size≤g) (k:Ext wr w2) (hC:CS g w2 fv fs d sa ns sc ca nc cc ea ne ec) (ka:Ext w2 wa)
  (hx:wa.ownsRow w.heap.size 85 3 (.slice ao acc.length cap) acc.length xs∧RowSc wa (fun b=>w.heap.size≤b∧b < wa.heap.size∧some b≠(Value.slice ao acc.length cap).ownBlock) acc xs)
  (ho:w6.ownsRow w.heap.size 85 3 (.slice (some ⟨g',0,none⟩) (acc.length+1) cap') (acc.length+1) (xs++[.int .i64 d.lc,.slice sa ns sc,.slice ca nc cc]))
  (hgw:wa.grownBy w6 (Value.slice ao acc.length cap).ownBlock) (hw:(Value.slice ao acc.length cap).ownBlock=some g'∨wa.heap.size≤g') :
  QI w w6 (acc++[⟨d.lc,d.sl,d.cl⟩]) (some ⟨g',0,none⟩) cap':=by
 have hz1:=k.size;have hz2:=ka.size;have hz3:=h.ext.size;have hgs:=hgw.size;have hln:(acc++[(⟨d.lc,d.sl,d.cl⟩:PSc)]).length=acc.length+1:=by simp
 have hne:∀ k,k < w.heap.size→some k≠(Value.slice ao acc.length cap).ownBlock:=fun k hk e=>by have:=(hx.1.lt k e.symm).1;omega
 have hE:Ext w w6:=by
  have h9:=(h.ext.trans k).trans ka;exact⟨hgw.os.trans h9.os,hgw.tape.trans h9.tape,hgw.output.trans h9.output,by omega,fun b hb=>(hgw.block b (by omega) (hne b hb)).trans (h9.block b hb)⟩
 have hF:∀ b,(w.heap.size≤b∧b < wa.heap.size∧some b≠(Value.slice ao acc.length cap).ownBlock) →
   (w.heap.size≤b∧b < w6.heap.size∧some b≠(Value.slice (some ⟨g',0,none⟩) (acc++[(⟨d.lc,d.sl,d.cl⟩:PSc)]).length cap').ownBlock)∧w6.heap[b]? = wa.heap[b]?:=by
  intro b hb;refine⟨⟨hb.1,by have:=hb.2.1;omega,?_⟩,hgw.block b hb.2.1 hb.2.2⟩;intro e;simp only[Value.ownBlock,Option.some.injEq] at e;rcases hw with e2 | e2
  ·exact hb.2.2 (by rw[e2,e])
  ·have:=hb.2.1;omega
 have hI:∀ b,(g+1≤b∧b < w2.heap.size)→(w.heap.size≤b∧b < wa.heap.size∧some b≠(Value.slice ao acc.length cap).ownBlock)∧wa.heap[b]? = w2.heap[b]?:=by
  intro b hb;obtain⟨ys,hy,_⟩:=h.own;exact⟨⟨by omega,by omega,fun e=>by have:=(hy.lt b e.symm).2;omega⟩,ka.block b hb.2⟩
 obtain⟨l1,i1⟩:=rowI hC.osl hC.hns;obtain⟨l2,i2⟩:=rowI hC.ocl hC.hnc;have e1:=hC.hns;have e2:=hC.hnc;subst e1 e2;exact⟨hE,_,by rw[hln];exact ho,RowSc.snoc (p:=⟨d.lc,d.sl,d.cl⟩) l1 ((i1.to hI).to hF) l2 ((i2.to hI).to hF) (RowSc.to hF hx.2)⟩
theorem CF.ext {g:Nat} {w w':World} (h:CF g w w') (wr:World) (hg:wr.heap.size≤g) (k:Ext wr w):Ext wr w':=⟨h.os.trans k.os,h.tape.trans k.tape,h.output.trans k.output,Nat.le_trans k.size h.size,fun b hb=>(h.low b (by omega)).trans (k.block b hb)⟩
theorem CS.new {w:World} {fs:List PFn} {fa:Option Addr} {fcap:Nat} (hr:RepFL w (fun b=>b < w.heap.size) fs fa) (hcap:fs.length≤fcap) :
  CS w.heap.size (w.alloc (ckO (.slice fa fs.length fcap) 0 (.slice none 0 0) (.slice none 0 0) (.slice none 0 0) 0 0)) (.slice fa fs.length fcap) fs ⟨[],0,0,[],[],0⟩ none 0 0 none 0 0 none 0 0 :=
 ⟨Go.heap_alloc_new w _,World.ownsRow_nil _ _ _ _,World.ownsRow_nil _ _ _ _,World.ownsRow_nil _ _ _ _,(fun b h=>by cases h),(fun p h=>by cases h),rfl,rfl,rfl,fa,fcap,rfl,hcap,hr.to (fun b hb=>⟨hb,(Ext.alloc w _).block b hb⟩)⟩
theorem infoSo:(Tryz.prog.info? 85).map (fun i=>(i.zero,i.size,i.bytes))=some (some (scV 0 none 0 0 none 0 0),3,56):=by kernel_rfl
theorem mainD_none {fs:List PFn} (h:∀ p ∈ fs,(p.nm.data.toList == [109,97,105,110])=false):mainD fs=11:=by
 unfold mainD;rw[idxF_none fs _ 0 h]
theorem mainD_some {fs:List PFn} {i:Nat} {p:PFn} (hp:fs[i]? = some p) (h:(p.nm.data.toList == [109,97,105,110])=true) (hn:(fs.take i).any (sameN p.nm)=false):mainD fs=if 0 < p.ps.length then 12 else 0:=by
 have e:p.nm.data.toList = [109,97,105,110]:=by simpa using h
 unfold mainD;rw[idxF_some fs ⟨#[109,97,105,110]⟩ 0 i p hp h (fun q hq=>by
  have:=List.any_eq_false.1 hn q hq;unfold sameN at this;rw[e] at this
  simpa using this),Nat.zero_add]
 simp only[hp,Option.map_some,Option.getD_some]
abbrev docE (fs:List PFn):List PSc × Int:=if (dChk fs fs []).2≠0 then ([],(dChk fs fs []).2) else if mainD fs≠0 then ([],mainD fs) else ((dChk fs fs []).1,0)
theorem docE_bad {fs:List PFn} {i:Nat} {p:PFn} {acc:List PSc} {c:Int} (hd:dChk fs fs []=dChk fs (fs.drop i) acc) (hp:fs[i]? = some p) (hc:(dFn fs p).2=c) (h:c≠0):docE fs=([],c):=by
 have e:=hd.trans (dChk_bad (acc:=acc) hp (by rw[hc];exact h));show (if (dChk fs fs []).2≠0 then ([],(dChk fs fs []).2) else _)=_
 rw[e,if_pos (by show (dFn fs p).2≠0;rw[hc];exact h)];show (([]:List PSc),(dFn fs p).2)=_;rw[hc]
theorem docE_end {fs:List PFn} {acc:List PSc} (hd:dChk fs fs []=(acc,0)):docE fs=if mainD fs≠0 then ([],mainD fs) else (acc,0):=by
 show (if (dChk fs fs []).2≠0 then ([],(dChk fs fs []).2) else if mainD fs≠0 then ([],mainD fs) else ((dChk fs fs []).1,0))=_
 rw[hd];exact if_neg (fun h=>h rfl)
def MainI (fs:List PFn) (i:Nat) (mn:Int):Prop:=(mn = -1∧∀ q ∈ fs.take i,(q.nm.data.toList == [109,97,105,110])=false)∨∃ (m:Nat) (p:PFn),mn=(m:Int)∧fs[m]? = some p∧(p.nm.data.toList == [109,97,105,110])=true
theorem MainI.yes {fs:List PFn} {i:Nat} {p:PFn} (hp:fs[i]? = some p) (h:(p.nm.toList == [109,97,105,110])=true) (j:Nat):MainI fs j (i:Int):=Or.inr ⟨i,p,rfl,hp,by rw[ByteArray.toList_eq] at h;exact h⟩
theorem MainI.no {fs:List PFn} {i:Nat} {mn:Int} {p:PFn} (hm:MainI fs i mn) (hp:fs[i]? = some p) (h:(p.nm.toList == [109,97,105,110])=false):MainI fs (i+1) mn:=by
 rcases hm with⟨rfl,hq⟩ | hq
 ·refine Or.inl ⟨rfl,fun q hq2 => ?_⟩
  have hlt:=(List.getElem?_eq_some_iff.1 hp).1;rw[List.take_succ_eq_append_getElem hlt,(List.getElem?_eq_some_iff.1 hp).2] at hq2;rcases List.mem_append.1 hq2 with hq2 | hq2
  ·exact hq q hq2
  ·simp at hq2;subst hq2;rw[ByteArray.toList_eq] at h;exact h
 ·exact Or.inr hq
end
section
open Go.RowKit Go.Maps
def ChkIs (R:List PSc × Int) (w:World) (e:Ending) (w':World):Prop :=
 Ext w w'∧∃ a cap,e = .returned (.tuple #[.slice a R.1.length cap,.int .i64 R.2])∧R.1.length≤cap∧RepSc w' (Fr w.heap.size w'.heap.size) R.1 a
end
end Go.Proofs.YtdnclahaejlehaaGreat
