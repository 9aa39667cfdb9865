/- What Check tells of functions that were read is what the document tells. -/
import Derived.Test.YtjnpehohialmbaaGreatZs22
set_option linter.unusedSimpArgs false
set_option linter.unusedVariables false
set_option maxRecDepth 10000
set_option maxHeartbeats 2000000
namespace Go.Proofs.YtjnpehohialmbaaGreat
open Go.RowKit
section
open Go.RowKit Go.Maps
def prmD:List ByteArray→Nat→List (ByteArray × Int)→Option (List (ByteArray × Int))
 | [],_,see=>some see
 | s :: r,k,see=>if (fnd see s).isSome then none else prmD r (k+1) (see++[(s,(k:Int))])
def dFn (fs:List PFn) (p:PFn):PSc × Int:=match prmD p.ps 0 [] with
 | none=>(⟨0,[],[]⟩,11)
 | some see=>if (dW fs (nsz p.bd) p.bd ⟨see,0,(p.ps.length:Int),[],[],0⟩).e≠0 then (⟨0,[],[]⟩,(dW fs (nsz p.bd) p.bd ⟨see,0,(p.ps.length:Int),[],[],0⟩).e)
  else if 64 < (dW fs (nsz p.bd) p.bd ⟨see,0,(p.ps.length:Int),[],[],0⟩).lc then (⟨0,[],[]⟩,65)
  else (⟨(dW fs (nsz p.bd) p.bd ⟨see,0,(p.ps.length:Int),[],[],0⟩).lc,(dW fs (nsz p.bd) p.bd ⟨see,0,(p.ps.length:Int),[],[],0⟩).sl,(dW fs (nsz p.bd) p.bd ⟨see,0,(p.ps.length:Int),[],[],0⟩).cl⟩,0)
def dChk (fs:List PFn):List PFn→List PSc→List PSc × Int
 | [],acc=>(acc,0)
 | p :: r,acc=>if (dFn fs p).2≠0 then ([],(dFn fs p).2) else dChk fs r (acc++[(dFn fs p).1])
def mainD (fs:List PFn):Int:=match idxF fs ⟨#[109,97,105,110]⟩ 0 with
 | none => 11
 | some i=>if 0 < ((fs[i]?).map (·.ps.length)).getD 0 then 12 else 0
def docP (fs:List PFn):List PSc × Int:=match nums fs 0 [] with
 | none=>([],11)
 | some _=>if (dChk fs fs []).2≠0 then ([],(dChk fs fs []).2) else if mainD fs≠0 then ([],mainD fs) else ((dChk fs fs []).1,0)
/- Words are no longer than their text. -/
theorem txF_len:∀ (f:Nat) (l:List UInt8) (t:List UInt8) (m:Nat),txF f l=some (t,m)→t.length≤l.length
 | 0,l,t,m,h=>by cases h
 | f+1,[],t,m,h=>by cases h
 | f+1,c :: r,t,m,h=>by
  rw[txF] at h
  split at h
  ·cases h
  split at h
  ·injection h with h;injection h with h1 h2;subst h1;simp
  split at h
  ·cases h
  ·rename_i h0
   obtain⟨q,hq,he⟩:=Option.map_eq_some_iff.1 h;injection he with he1 he2;subst he1;have ih:=txF_len f _ q.1 q.2 hq;rw[List.length_drop] at ih;have:=sg_le (c :: r);simp only[List.length_cons] at *;omega
theorem tokL_len {F:Nat} {l:List UInt8} {k:Int} {t:List UInt8} {n:Int} {m:Nat} (h:tokL F l=some (k,t,n,m)):t.length≤l.length:=by
 cases l with
 | nil=>cases h
 | cons c r =>
  rw[tokL] at h
  split at h
  ·unfold numL at h
   (repeat' split at h) <;> first | cases h;done | (cases h;simp)
  split at h
  ·unfold nameL at h
   split at h
   ·cases h
   ·injection h with h
    injection h with h1 h2;injection h2 with h2 h3;subst h2;rw[List.length_take];exact Nat.min_le_right _ _
  split at h
  ·unfold textL at h
   obtain⟨q,hq,hp⟩:=Option.map_eq_some_iff.1 h;injection hp with h1 h2;injection h2 with h2 h3;subst h2;have:=txF_len F r q.1 q.2 hq;simp only[List.length_cons];omega
  ·unfold opLL at h
   split at h
   ·cases h
   ·injection h with h
    injection h with h1 h2;injection h2 with h2 h3;subst h2;rw[List.length_take];exact Nat.min_le_right _ _
theorem lexL_size (F:Nat):∀ (f:Nat) (l:List UInt8) (o:Nat),∀ t ∈ (lexL F f l o).1,t.t.size≤l.length:=by
 intro f
 induction f with
 | zero=>intro l o t h;simp[lexL] at h
 | succ f ih =>
  intro l o t h;rw[lexL] at h;have hdl:(l.drop (skp false l)).length≤l.length:=by rw[List.length_drop];omega
  split at h
  ·simp at h
  ·rename_i c r hcr
   rw[hcr] at hdl
   split at h
   ·simp at h
   ·rename_i k tx n m ht
    rcases List.mem_cons.1 h with rfl | h
    ·have:=tokL_len ht
     show tx.toArray.size≤_;simp only[List.size_toArray];omega
    ·have:=ih _ _ t h
     rw[List.length_drop] at this;omega
theorem begP_tz (s:ByteArray):Tz (begP s):=by
 unfold begP
 split
 ·exact Tz.nil rfl
 ·rename_i hs
  split
  ·exact Tz.nil rfl
  ·intro t ht
   have h1:t ∈ (lexF (s.size+1) s 0).1:=ht;rw[lexF_L _ _ _ (Nat.zero_le _)] at h1;have:=lexL_size _ _ _ _ t h1;simp only[List.drop_zero] at this;have h2:=L_len s;omega
theorem begP_nv (s:ByteArray):Nv (begP s):=by
 unfold begP
 split
 ·exact⟨fun e=>absurd e (show ¬ (2:Int)=0 by decide),fun _=>rfl⟩
 ·split
  ·exact⟨fun e=>absurd e (show ¬ (10:Int)=0 by decide),fun _=>rfl⟩
  ·exact⟨fun _=>⟨(show (0:Int)≤0 by decide),(show (0:Int)≤24 by decide)⟩,fun e=>absurd rfl e⟩
end
section
open Go.RowKit Go.Maps
structure LE (d d':DK) (n:Nat):Prop where
 sl:d'.sl.length≤d.sl.length+n
 cl:d'.cl.length≤d.cl.length+n
 see:d'.see.length≤d.see.length+n
 lc:d'.lc≤d.lc+n
 lc0:d.lc≤d'.lc
 lp:d'.lp=d.lp
theorem LE.refl (d:DK) (n:Nat):LE d d n:=⟨by omega,by omega,by omega,by omega,by omega,rfl⟩
theorem LE.trans {a b c:DK} {n m:Nat} (h:LE a b n) (k:LE b c m):LE a c (n+m):=⟨by have:=h.sl;have:=k.sl;omega,by have:=h.cl;have:=k.cl;omega,by have:=h.see;have:=k.see;omega,by have:=h.lc;have:=k.lc;omega,by have:=h.lc0;have:=k.lc0;omega,k.lp.trans h.lp⟩
theorem use_le (d:DK) (s:ByteArray):(d.use s).sl.length≤d.sl.length+1∧(d.use s).cl=d.cl∧(d.use s).see=d.see∧(d.use s).lc=d.lc∧(d.use s).lp=d.lp:=by
 unfold DK.use
 split
 ·exact⟨by show d.sl.length≤_;omega,rfl,rfl,rfl,rfl⟩
 ·exact⟨by simp,rfl,rfl,rfl,rfl⟩
theorem dBeg_le (k:Int) (s:ByteArray) (d:DK):(dBeg k s d).sl.length≤d.sl.length+1∧(dBeg k s d).cl=d.cl∧(dBeg k s d).see=d.see∧(dBeg k s d).lc=d.lc∧(dBeg k s d).lp=d.lp∧((k=1∨k=10∨k=20)→dBeg k s d=d):=by
 unfold dBeg
 split
 ·rename_i h
  obtain⟨a,b,c,e,f⟩:=use_le d s;exact⟨a,b,c,e,f,fun h2=>absurd h (by rcases h2 with rfl | rfl | rfl <;> decide)⟩
 ·exact⟨by omega,rfl,rfl,rfl,rfl,fun _=>rfl⟩
theorem dEnd_le (fs:List PFn) (k:Int) (s:ByteArray) (n mark:Nat) (d:DK):LE d (dEnd fs k s n mark d) 1∧((k=1∨k=10∨k=20)∨dEnd fs k s n mark d=d):=by
 unfold dEnd
 split
 ·rename_i h1
  refine⟨?_,Or.inl (Or.inl h1)⟩;unfold DK.letD
  split
  ·exact LE.refl _ _
  split
  ·exact⟨by show d.sl.length≤_;omega,by show d.cl.length≤_;omega,by show d.see.length≤_;omega,by show d.lc≤_;omega,by show d.lc≤d.lc;omega,rfl⟩
  ·exact⟨by simp,by show d.cl.length≤_;omega,by simp,by show d.lc+1≤d.lc+((1:Nat):Int);omega,by show d.lc≤d.lc+1;omega,rfl⟩
 split
 ·rename_i h1
  exact⟨⟨by show d.sl.length≤_;omega,by show d.cl.length≤_;omega,by show (d.see.take mark).length≤_;rw[List.length_take];omega,by show d.lc≤_;omega,by show d.lc≤d.lc;omega,rfl⟩,Or.inl (Or.inr (Or.inl h1))⟩
 split
 ·rename_i h1
  refine⟨?_,Or.inl (Or.inr (Or.inr h1))⟩;unfold DK.callD;have same:∀ c:Int,LE d { d with e:=c } 1:=fun c=>⟨by show d.sl.length≤_;omega,by show d.cl.length≤_;omega,by show d.see.length≤_;omega,by show d.lc≤_;omega,by show d.lc≤d.lc;omega,rfl⟩;have more:∀ x:Int,LE d { d with cl:=d.cl++[x] } 1:=fun x=>⟨by show d.sl.length≤_;omega,by simp,by show d.see.length≤_;omega,by show d.lc≤_;omega,by show d.lc≤d.lc;omega,rfl⟩
  split
  ·exact LE.refl _ _
  split
  ·split
   ·exact same 12
   ·exact more _
  ·split
   ·exact same 11
   ·split
    ·exact same 12
    ·exact more _
 ·exact⟨LE.refl _ _,Or.inr rfl⟩
theorem fold_le (fs:List PFn) (F:Nat) (h:∀ (p:PN) (d:DK),LE d (dW fs F p d) (nsz p)):∀ (l:List PN) (d:DK),LE d (l.foldl (fun d x=>dW fs F x d) d) (nszL l)
 | [],d=>LE.refl _ _
 | x :: l,d=>by
  rw[List.foldl_cons,nszL];exact(h x d).trans (fold_le fs F h l _)
theorem dW_le (fs:List PFn):∀ (F:Nat) (p:PN) (d:DK),LE d (dW fs F p d) (nsz p)
 | 0,p,d=>LE.refl _ _
 | F+1,p,d=>by
  have hnp:nsz p=1+nszL p.l:=by cases p;rw[nsz]
  rw[dW,hnp]
  split
  ·exact LE.refl _ _
  split
  ·split
   ·rename_i c b hl
    have h1:=dW_le fs F c d;have h2:=dW_le fs F b { dW fs F c d with lp:=(dW fs F c d).lp+1 };have e2:(dW fs F b { dW fs F c d with lp:=(dW fs F c d).lp+1 }).lp=(dW fs F c d).lp+1:=h2.lp;have s2:(dW fs F b { dW fs F c d with lp:=(dW fs F c d).lp+1 }).sl.length≤(dW fs F c d).sl.length+nsz b:=h2.sl;have c2:(dW fs F b { dW fs F c d with lp:=(dW fs F c d).lp+1 }).cl.length≤(dW fs F c d).cl.length+nsz b:=h2.cl;have q2:(dW fs F b { dW fs F c d with lp:=(dW fs F c d).lp+1 }).see.length≤(dW fs F c d).see.length+nsz b:=h2.see;have l2:(dW fs F b { dW fs F c d with lp:=(dW fs F c d).lp+1 }).lc≤(dW fs F c d).lc+nsz b:=h2.lc;have m2:(dW fs F c d).lc≤(dW fs F b { dW fs F c d with lp:=(dW fs F c d).lp+1 }).lc:=h2.lc0;have hz:nszL p.l=nsz c+nsz b:=by rw[hl,nszL,nszL,nszL];omega
    have:=h1.sl;have:=h1.cl;have:=h1.see;have:=h1.lc;have:=h1.lc0;have:=h1.lp;rw[hz];refine⟨?_,?_,?_,?_,?_,?_⟩
    ·show (dW fs F b _).sl.length≤_;omega
    ·show (dW fs F b _).cl.length≤_;omega
    ·show (dW fs F b _).see.length≤_;omega
    ·show (dW fs F b _).lc≤_;omega
    ·show _≤(dW fs F b _).lc;omega
    ·show (dW fs F b _).lp - 1=_;omega
   ·exact LE.refl _ _
  split
  ·split
   ·exact⟨by show d.sl.length≤_;omega,by show d.cl.length≤_;omega,by show d.see.length≤_;omega,by show d.lc≤_;omega,by show d.lc≤d.lc;omega,rfl⟩
   ·exact LE.refl _ _
  ·have h1:=fold_le fs F (fun q e=>dW_le fs F q e) p.l (dBeg p.k p.s d)
   obtain⟨b1,b2,b3,b4,b5,b6⟩:=dBeg_le p.k p.s d;obtain⟨h2,h3⟩:=dEnd_le fs p.k p.s p.l.length d.see.length (p.l.foldl (fun d x=>dW fs F x d) (dBeg p.k p.s d));rcases h3 with h3 | h3
   ·rw[b6 h3] at h1 h2 ⊢
    rw[Nat.add_comm];exact h1.trans h2
   ·rw[h3]
    refine⟨by have:=h1.sl;omega,by have:=h1.cl;rw[b2] at this;omega,by have:=h1.see;rw[b3] at this;omega,by have:=h1.lc;rw[b4] at this;omega,by have:=h1.lc0;rw[b4] at this;omega,h1.lp.trans b5⟩
theorem fnd_hit {see:List (ByteArray × Int)} {s:ByteArray} {i:Nat} {p:ByteArray × Int} (hp:see[i]? = some p) (hm:(p.1.data.toList == s.data.toList)=true) (hn:∀ q ∈ see.drop (i+1),(q.1.data.toList == s.data.toList)=false):fnd see s=some p.2:=by
 have hlt:=(List.getElem?_eq_some_iff.1 hp).1;have hsp:see=see.take i++p :: see.drop (i+1):=by
  have h1:=List.take_append_drop i see;rw[List.drop_eq_getElem_cons hlt,(List.getElem?_eq_some_iff.1 hp).2] at h1;exact h1.symm
 unfold fnd lkp;rw[hsp,List.reverse_append,List.reverse_cons,List.append_assoc,List.find?_append];rw[List.find?_eq_none.2 (fun q hq=>by simp[hn q (by simpa using hq)]),Option.none_or,List.singleton_append,List.find?_cons,hm];rfl
theorem fnd_miss {see:List (ByteArray × Int)} {s:ByteArray} (hn:∀ q ∈ see,(q.1.data.toList == s.data.toList)=false):fnd see s=none:=by
 unfold fnd lkp;rw[List.find?_eq_none.2 (fun q hq=>by simp[hn q (by simpa using hq)])];rfl
theorem fnd_pos {see:List (ByteArray × Int)} {s:ByteArray} {v:Int} (hp:∀ p ∈ see,0≤p.2) (h:fnd see s=some v):0≤v:=by
 unfold fnd lkp at h;cases hf:see.reverse.find? (fun p=>p.1.data.toList == s.data.toList) with
 | none=>rw[hf] at h;cases h
 | some q =>
  rw[hf] at h;injection h with h;have hm:=List.mem_of_find?_eq_some hf;have h':q.2=v:=h;rw[← h'];exact hp q (by simpa using hm)
theorem dEnd_pre {fs:List PFn} {k:Int} {s:ByteArray} {n:Nat} {d0 d:DK} (h:d0.see <+: d.see):d0.see <+: (dEnd fs k s n d0.see.length d).see:=by
 unfold dEnd
 split
 ·unfold DK.letD
  split
  ·exact h
  split
  ·exact h
  ·exact h.trans (List.prefix_append _ _)
 split
 ·show d0.see <+: d.see.take d0.see.length
  rw[pre_take h];exact List.prefix_refl _
 split
 ·unfold DK.callD
  repeat' split
  all_goals exact h
 ·exact h
theorem fold_pre (fs:List PFn) (F:Nat) (h:∀ (p:PN) (d:DK),d.see <+: (dW fs F p d).see):∀ (l:List PN) (d:DK),d.see <+: (l.foldl (fun d x=>dW fs F x d) d).see
 | [],d=>List.prefix_refl _
 | x :: l,d=>by rw[List.foldl_cons];exact(h x d).trans (fold_pre fs F h l _)
theorem dW_pre (fs:List PFn):∀ (F:Nat) (p:PN) (d:DK),d.see <+: (dW fs F p d).see
 | 0,p,d=>List.prefix_refl _
 | F+1,p,d=>by
  rw[dW]
  split
  ·exact List.prefix_refl _
  split
  ·split
   ·exact(dW_pre fs F _ d).trans (dW_pre fs F _ { dW fs F _ d with lp:=(dW fs F _ d).lp+1 })
   ·exact List.prefix_refl _
  split
  ·split
   ·exact List.prefix_refl _
   ·exact List.prefix_refl _
  ·refine dEnd_pre ?_
   have h1:=fold_pre fs F (fun q e=>dW_pre fs F q e) p.l (dBeg p.k p.s d);rw[(dBeg_le p.k p.s d).2.2.1] at h1;exact h1
theorem idxF_none:∀ (l:List PFn) (s:ByteArray) (i:Nat),(∀ p ∈ l,(p.nm.data.toList == s.data.toList)=false)→idxF l s i=none
 | [],s,i,h=>rfl
 | p :: l,s,i,h=>by
  rw[idxF,if_neg (by rw[h p (by simp)];decide)];exact idxF_none l s (i+1) (fun q hq=>h q (by simp[hq]))
theorem idxF_some:∀ (l:List PFn) (s:ByteArray) (i j:Nat) (p:PFn),l[j]? = some p→(p.nm.data.toList == s.data.toList)=true→(∀ q ∈ l.take j,(q.nm.data.toList == s.data.toList)=false)→idxF l s i=some (i+j)
 | [],s,i,j,p,h,_,_=>by simp at h
 | q :: l,s,i,0,p,h,hm,hn=>by
  obtain rfl:q=p:=by simpa using h
  rw[idxF,if_pos hm];rfl
 | q :: l,s,i,j+1,p,h,hm,hn=>by
  rw[idxF,if_neg (by rw[hn q (by simp)];decide),idxF_some l s (i+1) j p (by simpa using h) hm (fun x hx=>hn x (by simp[hx]))]
  congr 1
  omega
end
section
open Go.RowKit Go.Maps
abbrev ckO (fv:Value) (lc:Int) (sv cv ev:Value) (lp e:Int):Obj:=.cells #[fv,.int .i64 lc,sv,cv,ev,.int .i64 lp,.int .i64 e] 118 (0,0)
abbrev seC (p:ByteArray × Int):List Value:=[.string p.1,.int .i64 p.2]
abbrev inV (l:List Int):List Value:=l.map (fun v => .int .i64 v)
structure CS (g:Nat) (w:World) (fv:Value) (fs:List PFn) (d:DK) (sa:Option Addr) (ns sc:Nat) (ca:Option Addr) (nc cc:Nat) (ea:Option Addr) (ne ec:Nat):Prop where
 row:w.heap[g]? = some (ckO fv d.lc (.slice sa ns sc) (.slice ca nc cc) (.slice ea ne ec) d.lp d.e)
 osl:w.ownsRow (g+1) 3 1 (.slice sa ns sc) ns (inV d.sl)
 ocl:w.ownsRow (g+1) 3 1 (.slice ca nc cc) nc (inV d.cl)
 ose:w.ownsRow (g+1) 121 2 (.slice ea ne ec) ne (d.see.flatMap seC)
 apart:∀ b,(Value.slice sa ns sc).ownBlock=some b→(Value.slice ca nc cc).ownBlock≠some b
 pos:∀ p ∈ d.see,0≤p.2
 hns:d.sl.length=ns
 hnc:d.cl.length=nc
 hne:d.see.length=ne
 fl:∃ fa fcap,fv = .slice fa fs.length fcap∧fs.length≤fcap∧RepFL w (fun b=>b < g) fs fa
structure CF (g:Nat) (w w':World):Prop where
 os:w'.os=w.os
 tape:w'.tape=w.tape
 output:w'.output=w.output
 size:w.heap.size≤w'.heap.size
 low:∀ b,b < g→w'.heap[b]? = w.heap[b]?
 typ:∀ b cs t fr,w.heap[b]? = some (.cells cs t fr)→b≠g→t≠3→t≠121→w'.heap[b]? = some (.cells cs t fr)
variable {g:Nat} {w w' w2:World} {fv:Value} {fs:List PFn} {d:DK} {sa ca ea:Option Addr} {ns sc nc cc ne ec:Nat}
theorem CF.refl (g:Nat) (w:World):CF g w w:=⟨rfl,rfl,rfl,Nat.le_refl _,fun _ _=>rfl,fun _ _ _ _ h _ _ _=>h⟩
theorem CF.trans (h:CF g w w') (k:CF g w' w2):CF g w w2:=⟨k.os.trans h.os,k.tape.trans h.tape,k.output.trans h.output,Nat.le_trans h.size k.size,fun b hb=>(k.low b hb).trans (h.low b hb),fun b cs t fr hb h1 h2 h3=>k.typ b cs t fr (h.typ b cs t fr hb h1 h2 h3) h1 h2 h3⟩
theorem CF.of (hg:g < w.heap.size) (k:Ext w w'):CF g w w':=⟨k.os,k.tape,k.output,k.size,fun b hb=>k.block b (by omega),fun b cs t fr hb _ _ _=>(k.block b (Array.getElem?_eq_some_iff.1 hb).1).trans hb⟩
theorem CF.set (h:CF g w w') (i:Nat) (v:Value):CF g w (w'.setCell ⟨g,i,none⟩ v):=by
 refine⟨h.os,h.tape,h.output,by simpa [World.setCell] using h.size,fun b hb => ?_,fun b cs t fr hb h1 h2 h3 => ?_⟩
 ·rw[Below.heap_setCell _ _ _ _ (by show b≠g;omega)];exact h.low b hb
 ·rw[Below.heap_setCell _ _ _ _ (by show b≠g;exact h1)];exact h.typ b cs t fr hb h1 h2 h3
theorem CF.grow {wa w6:World} {e:TypeId} {size n:Nat} {v:Value} {xs:List Value} (ho:wa.ownsRow (g+1) e size v n xs) (he:e=3∨e=121) (hg:g < wa.heap.size) (hgw:wa.grownBy w6 v.ownBlock):CF g wa w6:=by
 refine⟨hgw.os,hgw.tape,hgw.output,hgw.size,fun b hb=>hgw.block b (by omega) (fun e=>by have:=(ho.lt b e.symm).1;omega),fun b cs t fr hb h1 h2 h3 => ?_⟩;refine(hgw.block b (Array.getElem?_eq_some_iff.1 hb).1 (fun e2 => ?_)).trans hb;rcases ho.2 with⟨rfl,_⟩ | ⟨b2,cap,cur,rfl,_,hrow,_⟩
 ·cases e2
 ·simp only[Value.ownBlock,Option.some.injEq] at e2
  subst e2;rw[hrow] at hb;injection hb with hb;injection hb with _ hb _;subst hb;rcases he with rfl | rfl
  ·exact h2 rfl
  ·exact h3 rfl
theorem CF.rowN {k o n2:Int} {s:ByteArray} {v:Value} {B:Nat} (h:CF g w w') (hB:B≠g) (hr:w.heap[B]? = some (nodO k o s n2 v)):w'.heap[B]? = some (nodO k o s n2 v):=h.typ B _ _ _ hr hB (by decide) (by decide)
theorem CS.lt (h:CS g w fv fs d sa ns sc ca nc cc ea ne ec):g < w.heap.size:=(Array.getElem?_eq_some_iff.1 h.row).1
theorem own_extC {base:Nat} {e:TypeId} {size n:Nat} {v:Value} {xs:List Value} (h:w.ownsRow base e size v n xs) (k:Ext w w'):w'.ownsRow base e size v n xs:=by
 obtain⟨h1,h2⟩:=h;refine⟨h1,?_⟩;rcases h2 with h2 | ⟨b,cap,cur,q1,q2,q3,q4⟩
 ·exact Or.inl h2
 ·exact Or.inr ⟨b,cap,cur,q1,q2,(k.block b (Array.getElem?_eq_some_iff.1 q3).1).trans q3,q4⟩
theorem CS.ext (h:CS g w fv fs d sa ns sc ca nc cc ea ne ec) (k:Ext w w'):CS g w' fv fs d sa ns sc ca nc cc ea ne ec:=by
 have hg:=h.lt;obtain⟨fa,fcap,e1,e2,e3⟩:=h.fl;exact⟨(k.block g hg).trans h.row,own_extC h.osl k,own_extC h.ocl k,own_extC h.ose k,h.apart,h.pos,h.hns,h.hnc,h.hne,fa,fcap,e1,e2,e3.to (fun b hb=>⟨hb,k.block b (by omega)⟩)⟩
theorem CS.put (h:CS g w fv fs d sa ns sc ca nc cc ea ne ec) (i:Nat) (v:Value) (d':DK) (hs:d'.sl=d.sl) (hc:d'.cl=d.cl) (he:d'.see=d.see) (hrow:(w.setCell ⟨g,i,none⟩ v).heap[g]? = some (ckO fv d'.lc (.slice sa ns sc) (.slice ca nc cc) (.slice ea ne ec) d'.lp d'.e)) :
  CS g (w.setCell ⟨g,i,none⟩ v) fv fs d' sa ns sc ca nc cc ea ne ec:=by
 obtain⟨fa,fcap,e1,e2,e3⟩:=h.fl;exact⟨hrow,by rw[hs];exact ownsRow_setCell_below h.osl (Nat.lt_succ_self g) v,by rw[hc];exact ownsRow_setCell_below h.ocl (Nat.lt_succ_self g) v,by rw[he];exact ownsRow_setCell_below h.ose (Nat.lt_succ_self g) v,h.apart,by rw[he];exact h.pos,by rw[hs];exact h.hns,by rw[hc];exact h.hnc,by rw[he];exact h.hne,fa,fcap,e1,e2,e3.to (fun b hb=>⟨hb,Below.heap_setCell _ _ _ _ (by show b≠g;omega)⟩)⟩
theorem CS.setE (h:CS g w fv fs d sa ns sc ca nc cc ea ne ec) (c:Int):CS g (w.setCell ⟨g,6,none⟩ (.int .i64 c)) fv fs { d with e:=c } sa ns sc ca nc cc ea ne ec:=h.put 6 _ { d with e:=c } rfl rfl rfl (row_set h.row 6 _)
theorem CS.setLp (h:CS g w fv fs d sa ns sc ca nc cc ea ne ec) (c:Int):CS g (w.setCell ⟨g,5,none⟩ (.int .i64 c)) fv fs { d with lp:=c } sa ns sc ca nc cc ea ne ec:=h.put 5 _ { d with lp:=c } rfl rfl rfl (row_set h.row 5 _)
theorem CS.setLc (h:CS g w fv fs d sa ns sc ca nc cc ea ne ec) (c:Int):CS g (w.setCell ⟨g,1,none⟩ (.int .i64 c)) fv fs { d with lc:=c } sa ns sc ca nc cc ea ne ec:=h.put 1 _ { d with lc:=c } rfl rfl rfl (row_set h.row 1 _)
theorem own_two {base base':Nat} {e e':TypeId} {size size' n n':Nat} {v v':Value} {xs xs':List Value} (h:w.ownsRow base e size v n xs) (h':w.ownsRow base' e' size' v' n' xs') (hne:e≠e'):v.ownBlock=none∨v.ownBlock≠v'.ownBlock:=by
 rcases h.2 with⟨rfl,_⟩ | ⟨b,cap,cur,rfl,_,hrow,_⟩
 ·exact Or.inl rfl
 ·refine Or.inr (fun e1 => ?_)
  rcases h'.2 with⟨rfl,_⟩ | ⟨b',cap',cur',rfl,_,hrow',_⟩
  ·cases e1
  ·simp only[Value.ownBlock,Option.some.injEq] at e1
   subst e1;rw[hrow] at hrow';injection hrow' with hrow';injection hrow' with _ h2 _;exact hne h2
theorem fl_grow {wa w6:World} {v:Value} {e:TypeId} {size n:Nat} {xs:List Value} (ho:wa.ownsRow (g+1) e size v n xs) (hgw:wa.grownBy w6 v.ownBlock) (hg:g < wa.heap.size) (h:∃ fa fcap,fv = .slice fa fs.length fcap∧fs.length≤fcap∧RepFL wa (fun b=>b < g) fs fa):∃ fa fcap,fv = .slice fa fs.length fcap∧fs.length≤fcap∧RepFL w6 (fun b=>b < g) fs fa:=by
 obtain⟨fa,fcap,e1,e2,e3⟩:=h;exact⟨fa,fcap,e1,e2,e3.to (fun b hb=>⟨hb,hgw.block b (by omega) (fun e=>by have:=(ho.lt b e.symm).1;omega)⟩)⟩
theorem row_grow {wa w6:World} {v:Value} {e:TypeId} {size n:Nat} {xs:List Value} {ob:Obj} (ho:wa.ownsRow (g+1) e size v n xs) (hgw:wa.grownBy w6 v.ownBlock) (h:wa.heap[g]? = some ob):w6.heap[g]? = some ob :=
 (hgw.block g (Array.getElem?_eq_some_iff.1 h).1 (fun e=>by have:=(ho.lt g e.symm).1;omega)).trans h
theorem CS.pushSl {wa w6:World} {g' cap':Nat} {x:Int} (h:CS g wa fv fs d sa ns sc ca nc cc ea ne ec) (ho:w6.ownsRow (g+1) 3 1 (.slice (some ⟨g',0,none⟩) (ns+1) cap') (ns+1) (inV d.sl++[.int .i64 x])) (hgw:wa.grownBy w6 (Value.slice sa ns sc).ownBlock) (hw:(Value.slice sa ns sc).ownBlock=some g'∨wa.heap.size≤g') :
  CS g (w6.setCell ⟨g,2,none⟩ (.slice (some ⟨g',0,none⟩) (ns+1) cap')) fv fs { d with sl:=d.sl++[x] } (some ⟨g',0,none⟩) (ns+1) cap' ca nc cc ea ne ec∧CF g wa (w6.setCell ⟨g,2,none⟩ (.slice (some ⟨g',0,none⟩) (ns+1) cap')):=by
 have hg:=h.lt;have c1:w6.ownsRow (g+1) 3 1 (.slice ca nc cc) nc (inV d.cl):=h.ocl.kept hgw (by
  cases hv:(Value.slice ca nc cc).ownBlock with
  | none=>exact Or.inl rfl
  | some b=>exact Or.inr (fun e=>h.apart b e.symm hv))
 have c2:w6.ownsRow (g+1) 121 2 (.slice ea ne ec) ne (d.see.flatMap seC):=h.ose.kept hgw (own_two h.ose h.osl (by decide));have hr:=row_grow h.osl hgw h.row;obtain⟨fa,fcap,e1,e2,e3⟩:=fl_grow h.osl hgw hg h.fl;refine⟨⟨row_set hr 2 _,?_,ownsRow_setCell_below c1 (Nat.lt_succ_self g) _,ownsRow_setCell_below c2 (Nat.lt_succ_self g) _,?_,h.pos,by simp[h.hns],h.hnc,h.hne,fa,fcap,e1,e2,e3.to (fun b hb=>⟨hb,Below.heap_setCell _ _ _ _ (by show b≠g;omega)⟩)⟩,(CF.grow h.osl (Or.inl rfl) hg hgw).set 2 _⟩
 ·show (w6.setCell _ _).ownsRow (g+1) 3 1 _ (ns+1) (inV (d.sl++[x]))
  unfold inV;rw[List.map_append];exact ownsRow_setCell_below ho (Nat.lt_succ_self g) _
 ·intro b hb e
  simp only[Value.ownBlock,Option.some.injEq] at hb;subst hb;rcases hw with hw | hw
  ·exact h.apart _ hw e
  ·have:=(h.ocl.lt _ e).2
   omega
theorem CS.pushCl {wa w6:World} {g' cap':Nat} {x:Int} (h:CS g wa fv fs d sa ns sc ca nc cc ea ne ec) (ho:w6.ownsRow (g+1) 3 1 (.slice (some ⟨g',0,none⟩) (nc+1) cap') (nc+1) (inV d.cl++[.int .i64 x])) (hgw:wa.grownBy w6 (Value.slice ca nc cc).ownBlock) (hw:(Value.slice ca nc cc).ownBlock=some g'∨wa.heap.size≤g') :
  CS g (w6.setCell ⟨g,3,none⟩ (.slice (some ⟨g',0,none⟩) (nc+1) cap')) fv fs { d with cl:=d.cl++[x] } sa ns sc (some ⟨g',0,none⟩) (nc+1) cap' ea ne ec∧CF g wa (w6.setCell ⟨g,3,none⟩ (.slice (some ⟨g',0,none⟩) (nc+1) cap')):=by
 have hg:=h.lt;have c1:w6.ownsRow (g+1) 3 1 (.slice sa ns sc) ns (inV d.sl):=h.osl.kept hgw (by
  cases hv:(Value.slice sa ns sc).ownBlock with
  | none=>exact Or.inl rfl
  | some b=>exact Or.inr (fun e=>h.apart b hv e.symm))
 have c2:w6.ownsRow (g+1) 121 2 (.slice ea ne ec) ne (d.see.flatMap seC):=h.ose.kept hgw (own_two h.ose h.ocl (by decide));have hr:=row_grow h.ocl hgw h.row;obtain⟨fa,fcap,e1,e2,e3⟩:=fl_grow h.ocl hgw hg h.fl;refine⟨⟨row_set hr 3 _,ownsRow_setCell_below c1 (Nat.lt_succ_self g) _,?_,ownsRow_setCell_below c2 (Nat.lt_succ_self g) _,?_,h.pos,h.hns,by simp[h.hnc],h.hne,fa,fcap,e1,e2,e3.to (fun b hb=>⟨hb,Below.heap_setCell _ _ _ _ (by show b≠g;omega)⟩)⟩,(CF.grow h.ocl (Or.inl rfl) hg hgw).set 3 _⟩
 ·show (w6.setCell _ _).ownsRow (g+1) 3 1 _ (nc+1) (inV (d.cl++[x]))
  unfold inV;rw[List.map_append];exact ownsRow_setCell_below ho (Nat.lt_succ_self g) _
 ·intro b hb e
  simp only[Value.ownBlock,Option.some.injEq] at e;subst e;rcases hw with hw | hw
  ·exact h.apart _ hb hw
  ·have:=(h.osl.lt _ hb).2
   omega
theorem CS.pushSee {wa w6:World} {g' cap':Nat} {s:ByteArray} {x:Int} (h:CS g wa fv fs d sa ns sc ca nc cc ea ne ec) (hx:0≤x) (ho:w6.ownsRow (g+1) 121 2 (.slice (some ⟨g',0,none⟩) (ne+1) cap') (ne+1) (d.see.flatMap seC++[.string s,.int .i64 x])) (hgw:wa.grownBy w6 (Value.slice ea ne ec).ownBlock) :
  CS g (w6.setCell ⟨g,4,none⟩ (.slice (some ⟨g',0,none⟩) (ne+1) cap')) fv fs { d with see:=d.see++[(s,x)] } sa ns sc ca nc cc (some ⟨g',0,none⟩) (ne+1) cap'∧CF g wa (w6.setCell ⟨g,4,none⟩ (.slice (some ⟨g',0,none⟩) (ne+1) cap')):=by
 have hg:=h.lt;have c1:w6.ownsRow (g+1) 3 1 (.slice sa ns sc) ns (inV d.sl):=h.osl.kept hgw (own_two h.osl h.ose (by decide));have c2:w6.ownsRow (g+1) 3 1 (.slice ca nc cc) nc (inV d.cl):=h.ocl.kept hgw (own_two h.ocl h.ose (by decide));have hr:=row_grow h.ose hgw h.row;obtain⟨fa,fcap,e1,e2,e3⟩:=fl_grow h.ose hgw hg h.fl;refine⟨⟨row_set hr 4 _,ownsRow_setCell_below c1 (Nat.lt_succ_self g) _,ownsRow_setCell_below c2 (Nat.lt_succ_self g) _,?_,h.apart,?_,h.hns,h.hnc,by simp[h.hne],fa,fcap,e1,e2,e3.to (fun b hb=>⟨hb,Below.heap_setCell _ _ _ _ (by show b≠g;omega)⟩)⟩,(CF.grow h.ose (Or.inr rfl) hg hgw).set 4 _⟩
 ·show (w6.setCell _ _).ownsRow (g+1) 121 2 _ (ne+1) ((d.see++[(s,x)]).flatMap seC)
  rw[List.flatMap_append];exact ownsRow_setCell_below ho (Nat.lt_succ_self g) _
 ·intro p hp
  rcases List.mem_append.1 hp with hp | hp
  ·exact h.pos p hp
  ·simp at hp;subst hp;exact hx
theorem own_cut {base:Nat} {e:TypeId} {n cap mark:Nat} {a:Option Addr} {xs:List Value} (h:w.ownsRow base e 2 (.slice a n cap) n xs) (hm:mark≤n):w.ownsRow base e 2 (.slice a mark cap) mark (xs.take (mark * 2)):=by
 obtain⟨h1,h2⟩:=h;refine⟨by rw[List.length_take,h1];omega,?_⟩;rcases h2 with⟨q1,q2⟩ | ⟨b,cap2,cur,q1,q2,q3,q4,q5,q6,q7⟩
 ·injection q1 with q1 q8 q9
  subst q1 q9;exact Or.inl ⟨by rw[show mark=0 by omega],by omega⟩
 ·injection q1 with q1 q8 q9
  subst q1 q9;refine Or.inr ⟨b,cap,cur,rfl,q2,q3,by omega,q5,q6,?_⟩;rw[← q7,List.take_take]
  congr 1
  omega
theorem seC_take:∀ (l:List (ByteArray × Int)) (m:Nat),(l.flatMap seC).take (m * 2)=(l.take m).flatMap seC
 | [],m=>by simp
 | p :: l,0=>by simp
 | p :: l,m+1=>by
  rw[List.flatMap_cons,List.take_succ_cons,List.flatMap_cons,← seC_take l m];show ([Value.string p.1,.int .i64 p.2]++l.flatMap seC).take ((m+1) * 2)=_;rw[show (m+1) * 2=m * 2+2 by omega];rfl
theorem CS.cut (h:CS g w fv fs d sa ns sc ca nc cc ea ne ec) (mark:Nat) (hm:mark≤ne) :
  CS g (w.setCell ⟨g,4,none⟩ (.slice ea mark ec)) fv fs { d with see:=d.see.take mark } sa ns sc ca nc cc ea mark ec:=by
 obtain⟨fa,fcap,e1,e2,e3⟩:=h.fl;have ho:=own_cut h.ose hm;rw[seC_take] at ho;exact⟨row_set h.row 4 _,ownsRow_setCell_below h.osl (Nat.lt_succ_self g) _,ownsRow_setCell_below h.ocl (Nat.lt_succ_self g) _,ownsRow_setCell_below ho (Nat.lt_succ_self g) _,h.apart,fun p hp=>h.pos p (List.mem_of_mem_take hp),h.hns,h.hnc,by rw[List.length_take,h.hne];omega,fa,fcap,e1,e2,e3.to (fun b hb=>⟨hb,Below.heap_setCell _ _ _ _ (by show b≠g;omega)⟩)⟩
theorem see_cell:∀ (l:List (ByteArray × Int)) (i:Nat) (p:ByteArray × Int),l[i]? = some p→(l.flatMap seC)[i * 2]? = some (.string p.1)∧(l.flatMap seC)[i * 2+1]? = some (.int .i64 p.2)
 | [],i,p,h=>by simp at h
 | q :: l,0,p,h=>by
  obtain rfl:q=p:=by simpa using h
  exact⟨rfl,rfl⟩
 | q :: l,i+1,p,h=>by
  have ih:=see_cell l i p (by simpa using h);rw[List.flatMap_cons,show (i+1) * 2=i * 2+2 by omega];exact ih
theorem CS.at (h:CS g w fv fs d sa ns sc ca nc cc ea ne ec) (i:Nat) (p:ByteArray × Int) (hp:d.see[i]? = some p):∃ b,ea=some ⟨b,0,none⟩∧w.cell? ⟨b,i * 2,none⟩=some (.string p.1)∧w.cell? ⟨b,i * 2+1,none⟩=some (.int .i64 p.2):=by
 obtain⟨c0,c1⟩:=see_cell d.see i p hp;have hlt:=(List.getElem?_eq_some_iff.1 hp).1;have hne:=h.hne;rcases h.ose.2 with⟨q1,q2⟩ | ⟨b,cap2,cur,q1,q2,q3,q4,q5,q6,q7⟩
 ·omega
 ·injection q1 with q1 q8 q9
  subst q1 q9;have hc:=cells_own h.ose;refine⟨b,rfl,?_,?_⟩
  ·have:=hc _ _ c0
   rw[Nat.zero_add] at this;exact this
  ·have:=hc _ _ c1
   rw[Nat.zero_add] at this;exact this
theorem nrm_inC {Q:Exit→Act→World→Prop} {a:Act} {w:World} (h:Q .normal a w):Nrm Q .normal a w:=h
end
section
open Go.RowKit Go.Maps
variable {g:Nat} {w w' w2:World} {fv:Value} {fs:List PFn} {d:DK} {sa ca ea:Option Addr} {ns sc nc cc ne ec:Nat}
def CK (g:Nat) (w:World) (fv:Value) (fs:List PFn) (d:DK):Prop:=∃ sa ns sc ca nc cc ea ne ec,CS g w fv fs d sa ns sc ca nc cc ea ne ec
theorem CK.ext (h:CK g w fv fs d) (k:Ext w w'):CK g w' fv fs d:=by
 obtain⟨sa,ns,sc,ca,nc,cc,ea,ne,ec,h⟩:=h;exact⟨sa,ns,sc,ca,nc,cc,ea,ne,ec,h.ext k⟩
theorem CK.lt (h:CK g w fv fs d):g < w.heap.size:=by
 obtain⟨sa,ns,sc,ca,nc,cc,ea,ne,ec,h⟩:=h;exact h.lt
theorem ck_c {lc lp e:Int} {sv cv ev:Value} (h:w.heap[g]? = some (ckO fv lc sv cv ev lp e)):w.cell? ⟨g,0,none⟩=some fv∧w.cell? ⟨g,1,none⟩=some (.int .i64 lc)∧w.cell? ⟨g,2,none⟩=some sv∧w.cell? ⟨g,3,none⟩=some cv∧w.cell? ⟨g,4,none⟩=some ev∧w.cell? ⟨g,5,none⟩=some (.int .i64 lp)∧w.cell? ⟨g,6,none⟩=some (.int .i64 e)∧∀ i,w.frozen? ⟨g,i,none⟩=false :=
 ⟨zr h 0 rfl,zr h 1 rfl,zr h 2 rfl,zr h 3 rfl,zr h 4 rfl,zr h 5 rfl,zr h 6 rfl,rowF h⟩
def fndV (see:List (ByteArray × Int)) (s:ByteArray):Int:=match fnd see s with
 | some v=>v
 | none => -1
theorem find_c (h:CK g w fv fs d) (hb:d.see.length≤100000) (s:ByteArray):Calls Tryz.prog 38 #[.pointer (some ⟨g,0,none⟩),.string s] w fun e w'=>e = .returned (.int .i64 (fndV d.see s))∧Ext w w':=by
 obtain⟨sa,ns,sc,ca,nc,cc,ea,ne,ec,h⟩:=h;have hne:=h.hne;have H:=zh h;obtain⟨c0,c1,c2,c3,c4,c5,c6,zf⟩:=ck_c h.row;have C4:=zh c4;have hnn:ne≤100000:=by omega
 have hec:ne≤ec:=by
  rcases h.ose.2 with⟨q1,q2⟩ | ⟨b,cap2,cur,q1,q2,q3,q4,q5,q6,q7⟩
  ·omega
  ·injection q1 with q1 q8 q9;omega
 clear h
 go_enter Tryz.func38,Tryz.ntmps38
 go_wp2_with fail
 go_loopw [5] (fun t wr => ∃ (j:Nat),t = .int .i64 ((j:Int) - 1)∧j≤ne∧Hd (Ext w wr)∧Hd (∀ q ∈ d.see.drop j,(q.1.data.toList == s.data.toList)=false)) (fun t _=>(intOf t+1).toNat)
 case atStart=>exact⟨ne,rfl,Nat.le_refl _,Ext.refl _,by rw[← hne,List.drop_length];intro q hq;cases hq⟩
 case round =>
  clear c0 c1 c2 c3 c4 c5 c6 zf;obtain⟨j,rfl,hj,hX,hN⟩:=hrel;have c4:=(zu hX).cell (zu C4);cases j with
  | zero =>
   have HM:Hd (fndV d.see s = -1):=by
    unfold Hd fndV;rw[fnd_miss (fun q hq=>zu hN q (by simpa using hq))]
   go_wp2_with fail
   go_ret;exact⟨by rw[zu HM];rfl,zu hX⟩
  | succ i =>
   obtain⟨p,hp⟩:∃ p,d.see[i]? = some p:=⟨_,List.getElem?_eq_getElem (by omega)⟩;obtain⟨b,rfl,e0,e1⟩:=(zu H).at i p hp;have e0:=(zu hX).cell e0;have e1:=(zu hX).cell e1;have hi1:((i+1:Nat):Int) - 1=(i:Int):=by omega
   rw[hi1];cases hq:(p.1.toList == s.toList)
   ·have HN2:Hd (∀ q ∈ d.see.drop i,(q.1.data.toList == s.data.toList)=false):=by
     intro q hq2;rw[List.drop_eq_getElem_cons (by omega),(List.getElem?_eq_some_iff.1 hp).2] at hq2;rcases List.mem_cons.1 hq2 with rfl | hq2
     ·rw[ByteArray.toList_eq,ByteArray.toList_eq] at hq;exact hq
     ·exact zu hN q hq2
    clear hp
    go_wp2_with fail
    go_roundw
    case rel=>exact⟨i,by go_num,by omega,hX,HN2⟩
    case measure=>simp[intOf];try omega
   ·have HM:Hd (fndV d.see s=p.2):=by
     unfold Hd fndV;rw[ByteArray.toList_eq,ByteArray.toList_eq] at hq;rw[fnd_hit hp hq (zu hN)]
    clear hp
    go_wp2_with fail
    go_ret;exact⟨by rw[zu HM];rfl,zu hX⟩
theorem infoI:(Tryz.prog.info? 3).map (fun i=>(i.zero,i.size,i.bytes))=some (some (.int .i64 0),1,8):=by kernel_rfl
theorem infoSe:(Tryz.prog.info? 121).map (fun i=>(i.zero,i.size,i.bytes))=some (some (.agg #[.string zE,.int .i64 0]),2,24):=by kernel_rfl
theorem one_int (x:Int):∀ u ∈ ([.int .i64 x]:List Value),u.oneCell' = true:=by
 intro u hu;simp at hu;subst hu;rfl
theorem one_see (s:ByteArray) (x:Int):∀ u ∈ ([.string s,.int .i64 x]:List Value),u.oneCell' = true:=by
 intro u hu;simp at hu;rcases hu with rfl | rfl <;> rfl
abbrev CAns (g:Nat) (w:World) (fv:Value) (fs:List PFn) (d:DK) (e:Ending) (w':World):Prop:=e = .returned (.tuple #[])∧CK g w' fv fs d∧CF g w w'
theorem use_c (h:CK g w fv fs d) (he:d.e=0) (hb:d.see.length≤100000) (hbs:d.sl.length≤100000) (s:ByteArray):Calls Tryz.prog 66 #[.pointer (some ⟨g,0,none⟩),.string s] w (CAns g w fv fs (d.use s)):=by
 have HF:=zh (find_c h hb s);obtain⟨sa,ns,sc,ca,nc,cc,ea,ne,ec,h⟩:=h;have hns:=h.hns;have H:=zh h;have hg:=h.lt;have hrow:=h.row;rw[he] at hrow;have HR:=zh hrow;obtain⟨i0,hi,hz0,hz1,hz2⟩:=info_parts infoI;have HI:=zh hi;have Z0:=zh hz0;have Z1:=zh hz1;have Z2:=zh hz2;clear hi hz0 hz1 hz2;cases hf:fnd d.see s with
 | none =>
  have hu:d.use s = { d with e:=11 }:=by unfold DK.use;rw[hf]
  have hv:fndV d.see s = -1:=by unfold fndV;rw[hf]
  rw[hu];rw[hv] at HF;clear h hu hv hf hrow he
  go_enter Tryz.func66,Tryz.ntmps66
  go_wp2_with (go_at_call 38;refine Calls.mono (zu HF) ?_;rintro e w1 ⟨rfl,hw⟩;have X1:=zh hw;have hr:=hw.row (zu HR);obtain⟨c0,c1,c2,c3,c4,c5,c6,zf⟩:=ck_c hr;clear hw hr)
  go_end0
  exact⟨rfl,⟨_,_,_,_,_,_,_,_,_,((zu H).ext (zu X1)).setE 11⟩,(CF.of hg (zu X1)).set 6 _⟩
 | some v =>
  have hu:d.use s = { d with sl:=d.sl++[v] }:=by unfold DK.use;rw[hf]
  have hv:fndV d.see s=v:=by unfold fndV;rw[hf]
  have hpos:=fnd_pos h.pos hf;have hd0:decide (v < 0)=false:=by simp;omega
  have hd1:¬ v < 0:=by omega
  rw[hu];rw[hv] at HF;clear h hu hv hf hrow he
  go_enter Tryz.func66,Tryz.ntmps66
  go_wp2_with (first
   | (go_at_call 38;refine Calls.mono (zu HF) ?_;rintro e w1 ⟨rfl,hw⟩;have X1:=zh hw;have hr:=hw.row (zu HR);obtain⟨c0,c1,c2,c3,c4,c5,c6,zf⟩:=ck_c hr;have HA:=zh (fun ob=>((zu H).ext hw).ext (Ext.alloc _ ob));have hz1:=hw.size;clear hw hr)
   | (at_builtin;refine wpList_append_where rfl (.tmp 30) (.tmp 32) 77 rfl (g+1) 3 i0 (.int .i64 0) 1 8 Tryz.underlying77 (zu HI) (zu Z0) (zu Z1) (zu Z2) rfl (by decide) sa ns sc (inV d.sl) rfl (zu HA _).osl ⟨w1.heap.size,0,none⟩ 1 1 [.int .i64 v] rfl (by decide) rfl (cells_new w1 _ _) (one_int _) ?c1 ?c2 ?c3 ?_))
  case c1=>unfold maxLen;omega
  case c2=>omega
  case c3=>simp;omega
  intro g2 cap6 w6 ho6 hg6 hw6;have hP:=CS.pushSl (zu HA _) ho6 hg6 (by rw[size_alloc];exact hw6);have hrow6:=row_grow (zu HA _).osl hg6 (zu HA _).row;obtain⟨z0,z1,z2,z3,z4,z5,z6,zzf⟩:=ck_c hrow6;have HP:=zh hP;clear hP hrow6 ho6 hg6 hw6 c0 c1 c2 c3 c4 c5 c6 zf
  go_wp2_with fail
  go_end0
  exact⟨rfl,⟨_,_,_,_,_,_,_,_,_,(zu HP).1⟩,(CF.of hg ((zu X1).trans (Ext.alloc _ _))).trans (zu HP).2⟩
end
section
open Go.RowKit Go.Maps
def biV (s:ByteArray):Value:=match biP s with
 | some (o,n) => .tuple #[.int .i64 o,.int .i64 n,.bool true]
 | none => .tuple #[.int .i64 0,.int .i64 0,.bool false]
end
end Go.Proofs.YtjnpehohialmbaaGreat
