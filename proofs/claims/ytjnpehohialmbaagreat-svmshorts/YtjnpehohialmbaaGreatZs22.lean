/- What is read: its texts are words;while,break and continue stand as they should;without a fault it has no more nodes than words were taken. -/
import Derived.Maps.OwnSet
import Derived.StringKeys
import Derived.Test.YtjnpehohialmbaaGreatZs20
set_option linter.unusedSimpArgs false
set_option linter.unusedVariables false
set_option maxRecDepth 10000
namespace Go.Proofs.YtjnpehohialmbaaGreat
open Go.RowKit
section
mutual
/-- How many nodes a tree has. -/
def nsz:PN→Nat
 | ⟨_,_,_,_,l⟩ => 1+nszL l
def nszL:List PN→Nat
 | [] => 0
 | p :: l=>nsz p+nszL l
end
theorem nszL_append:∀ (a b:List PN),nszL (a++b)=nszL a+nszL b
 | [],b=>by simp[nszL]
 | p :: a,b=>by rw[List.cons_append,nszL,nszL,nszL_append a b];omega
theorem nszL_mem {x:PN}:∀ {l:List PN},x ∈ l→nsz x≤nszL l
 | [],h=>by cases h
 | p :: l,h=>by
  rw[nszL];rcases List.mem_cons.1 h with rfl | h
  ·omega
  ·have:=nszL_mem h;omega
theorem nsz_pos (p:PN):1≤nsz p:=by cases p;rw[nsz];omega
def nXf:Nat→PN→Prop
 | 0,_=>False
 | f+1,p=>p.k≠4∧p.k≠5∧p.k≠6∧p.s.size≤4000∧∀ x ∈ p.l,nXf f x
def nX (p:PN):Prop:=∃ f,nXf f p
theorem nXf.up:∀ (f:Nat) (p:PN),nXf f p→nXf (f+1) p
 | 0,p,h=>h.elim
 | f+1,p,h=>⟨h.1,h.2.1,h.2.2.1,h.2.2.2.1,fun x hx=>nXf.up f x (h.2.2.2.2 x hx)⟩
theorem nXf.add {f:Nat} {p:PN} (h:nXf f p) (k:Nat):nXf (f+k) p:=by
 induction k with
 | zero=>exact h
 | succ k ih=>exact nXf.up _ _ ih
theorem nX.all:∀ (l:List PN),(∀ x ∈ l,nX x)→∃ f,∀ x ∈ l,nXf f x
 | [],_=>⟨0,fun x h=>by cases h⟩
 | a :: l,h=>by
  obtain⟨f1,h1⟩:=h a (by simp);obtain⟨f2,h2⟩:=nX.all l (fun x hx=>h x (by simp[hx]));refine⟨f1+f2,fun x hx => ?_⟩;rcases List.mem_cons.1 hx with rfl | hx
  ·exact h1.add f2
  ·have:=(h2 x hx).add f1
   rw[Nat.add_comm] at this;exact this
theorem nX.mk {k o:Int} {s:ByteArray} {n:Int} {l:List PN} (h4:k≠4) (h5:k≠5) (h6:k≠6) (hs:s.size≤4000) (hl:∀ x ∈ l,nX x):nX ⟨k,o,s,n,l⟩:=by
 obtain⟨f,hf⟩:=nX.all l hl;exact⟨f+1,h4,h5,h6,hs,hf⟩
def gXf:Nat→PN→Prop
 | 0,_=>False
 | f+1,p=>p.s.size≤4000∧(p.k=4→∃ c b,p.l = [c,b]∧nX c)∧(p.k=5∨p.k=6→p.l = [])∧∀ x ∈ p.l,gXf f x
def gX (p:PN):Prop:=∃ f,gXf f p
theorem gXf.up:∀ (f:Nat) (p:PN),gXf f p→gXf (f+1) p
 | 0,p,h=>h.elim
 | f+1,p,h=>⟨h.1,h.2.1,h.2.2.1,fun x hx=>gXf.up f x (h.2.2.2 x hx)⟩
theorem gXf.add {f:Nat} {p:PN} (h:gXf f p) (k:Nat):gXf (f+k) p:=by
 induction k with
 | zero=>exact h
 | succ k ih=>exact gXf.up _ _ ih
theorem gX.all:∀ (l:List PN),(∀ x ∈ l,gX x)→∃ f,∀ x ∈ l,gXf f x
 | [],_=>⟨0,fun x h=>by cases h⟩
 | a :: l,h=>by
  obtain⟨f1,h1⟩:=h a (by simp);obtain⟨f2,h2⟩:=gX.all l (fun x hx=>h x (by simp[hx]));refine⟨f1+f2,fun x hx => ?_⟩;rcases List.mem_cons.1 hx with rfl | hx
  ·exact h1.add f2
  ·have:=(h2 x hx).add f1
   rw[Nat.add_comm] at this;exact this
theorem gX.mk {k o:Int} {s:ByteArray} {n:Int} {l:List PN} (hs:s.size≤4000) (h4:k=4→∃ c b,l = [c,b]∧nX c) (h5:k=5∨k=6→l = []) (hl:∀ x ∈ l,gX x):gX ⟨k,o,s,n,l⟩:=by
 obtain⟨f,hf⟩:=gX.all l hl;exact⟨f+1,hs,h4,h5,hf⟩
theorem gXf.of:∀ (f:Nat) (p:PN),nXf f p→gXf f p
 | 0,p,h=>h.elim
 | f+1,p,h=>⟨h.2.2.2.1,fun e=>absurd e h.1,fun e=>e.elim (fun e=>absurd e h.2.1) (fun e=>absurd e h.2.2.1),fun x hx=>gXf.of f x (h.2.2.2.2 x hx)⟩
theorem nX.g {p:PN} (h:nX p):gX p:=by obtain⟨f,hf⟩:=h;exact⟨f,gXf.of f p hf⟩
theorem gX.sub {p x:PN} (h:gX p) (hx:x ∈ p.l):gX x:=by
 obtain⟨f,hf⟩:=h;cases f with
 | zero=>exact hf.elim
 | succ f=>exact⟨f,hf.2.2.2 x hx⟩
theorem gX.props {p:PN} (h:gX p):p.s.size≤4000∧(p.k=4→∃ c b,p.l = [c,b]∧nX c)∧(p.k=5∨p.k=6→p.l = []):=by
 obtain⟨f,hf⟩:=h;cases f with
 | zero=>exact hf.elim
 | succ f=>exact⟨hf.1,hf.2.1,hf.2.2.1⟩
def Tz (st:PS):Prop:=∀ t ∈ st.ts,t.t.size≤4000
theorem Tz.next {st:PS} (h:Tz st):Tz st.next:=fun t ht=>h t (List.mem_of_mem_tail ht)
theorem Tz.nil {st:PS} (h:st.ts = []):Tz st:=fun t ht=>by rw[h] at ht;cases ht
theorem Tz.fail (st:PS) (len:Nat) (c:Int):Tz (st.fail len c):=Tz.nil (fail_ts _ _ _)
theorem Tz.sign {st:PS} (h:Tz st) (len:Nat) (c:ByteArray):Tz (st.sign len c):=by
 unfold PS.sign
 split
 ·exact h.next
 ·exact Tz.fail _ _ _
theorem Tz.word {st:PS} (h:Tz st) (len:Nat) (c:ByteArray):Tz (st.word len c):=by
 unfold PS.word
 split
 ·exact h.next
 ·exact Tz.fail _ _ _
theorem Tz.name {st:PS} (h:Tz st) (len:Nat):Tz (st.name len).2:=by
 unfold PS.name
 split
 ·exact h.next
 ·exact Tz.fail _ _ _
theorem Tz.hd {st:PS} (h:Tz st):(hdT st.ts 0).t.size≤4000:=by
 cases hs:st.ts with
 | nil=>exact Nat.zero_le _
 | cons x r=>exact h x (by rw[hs];simp)
theorem Tz.nm {st:PS} (h:Tz st) (len:Nat):(st.name len).1.size≤4000:=by
 unfold PS.name
 split
 ·exact h.hd
 ·exact Nat.zero_le _
theorem Tz.enter {st:PS} (h:Tz st) (len:Nat):Tz (st.enter len):=by
 unfold PS.enter
 split
 ·exact Tz.fail _ _ _
 ·exact h
theorem len_next {st:PS} (h:st.ts≠[]):st.next.ts.length+1=st.ts.length:=by
 cases hs:st.ts with
 | nil=>exact absurd hs h
 | cons x r=>simp[PS.next,hs]
theorem fail_e (st:PS) (len:Nat) {c:Int} (hc:c≠0):(st.fail len c).e≠0:=by
 unfold PS.fail
 split
 ·exact hc
 ·assumption
theorem sign_z {st:PS} {len:Nat} {c:ByteArray} (h:(st.sign len c).e=0):(st.sign len c).ts.length+1=st.ts.length:=by
 unfold PS.sign at *
 split
 ·rename_i hs;exact len_next (isS_ne hs)
 ·rename_i hs;rw[if_neg hs] at h;exact absurd h (fail_e _ _ (by decide))
theorem hd_ne {st:PS} (h:(hdT st.ts 0).k≠0):st.ts≠[]:=fun e=>h (by rw[e];rfl)
theorem enter_z {st:PS} {len:Nat} (h:(st.enter len).e=0):(st.enter len).ts=st.ts:=by rw[(enter_ok h).2];rfl
theorem operT_ne {st:PS} {lv:Int} {o:Opr} (h:st.oper lv=some o):st.ts≠[]:=fun e=>by
 unfold PS.oper at h;rw[e] at h;cases h
theorem oprs_k {lv:Int} {s:ByteArray} {o:Opr} (h:atLv lv s=some o):o.k≠4∧o.k≠5∧o.k≠6:=by
 have hm:=List.mem_of_find?_eq_some h;have hall:oprs.all (fun o=>decide (o.k≠4) && decide (o.k≠5) && decide (o.k≠6))=true:=by decide +kernel
 have:=List.all_eq_true.1 hall o hm
 simpa [and_assoc] using this
theorem oper_k {st:PS} {lv:Int} {o:Opr} (h:st.oper lv=some o):o.k≠4∧o.k≠5∧o.k≠6:=by
 unfold PS.oper at h
 split at h
 ·exact oprs_k h
 ·cases h
structure JX (X:PN→Prop) (st:PS) (r:PN × PS):Prop where
 kp:Kp st r.2
 tz:Tz r.2
 x:X r.1
 z:r.2.e=0→nsz r.1+r.2.ts.length≤st.ts.length
abbrev JR (X:PN→Prop) (n:Nat) (rd:Rdr):Prop:=∀ st,Nv st→Tz st→st.ts.length < n→JX X st (rd st)
theorem JX.le {X:PN→Prop} {st:PS} {r:PN × PS} (h:JX X st r):r.2.ts.length≤st.ts.length:=by
 by_cases e:r.2.e=0
 ·have:=h.z e;omega
 ·rw[h.kp.nil e];exact Nat.zero_le _
theorem nX.node2 {o:Opr} {a b:PN} (ho:o.k≠4∧o.k≠5∧o.k≠6) (ha:nX a) (hb:nX b):nX (o.node [a,b]):=nX.mk ho.1 ho.2.1 ho.2.2 (Nat.zero_le _) (fun x hx=>by simp at hx;rcases hx with rfl | rfl;exact ha;exact hb)
theorem nsz2 (o:Opr) (a b:PN):nsz (o.node [a,b])=1+nsz a+nsz b:=by show nsz ⟨_,_,_,_,[a,b]⟩=_;rw[nsz,nszL,nszL,nszL];omega
theorem loop_j {lv:Int} {sub:Rdr} {n:Nat} (h:JR nX n sub):∀ (f:Nat) (p:PN) (st:PS),nX p→Nv st→Tz st→st.ts.length < n →
  Kp st (loopP lv sub f p st).2∧Tz (loopP lv sub f p st).2∧nX (loopP lv sub f p st).1∧((loopP lv sub f p st).2.e=0→nsz (loopP lv sub f p st).1+(loopP lv sub f p st).2.ts.length≤nsz p+st.ts.length)
 | 0,p,st,hp,nv,tz,hl=>⟨Kp.refl nv,tz,hp,fun _=>Nat.le_refl _⟩
 | f+1,p,st,hp,nv,tz,hl=>by
  rw[loopP];unfold PS.takeO;cases e:st.oper lv with
  | none=>exact⟨Kp.refl nv,tz,hp,fun _=>Nat.le_refl _⟩
  | some o =>
   have hne:=operT_ne e;have h1:=next_kp nv;have hn:=len_next hne;have j:=h st.next (h1.nv nv) tz.next (by omega);have hle:=j.le;obtain⟨a,b,c,d⟩:=loop_j (lv:=lv) h f (o.node [p,(sub st.next).1]) (sub st.next).2 (nX.node2 (oper_k e) hp j.x) (j.kp.nv (h1.nv nv)) j.tz (by omega);refine⟨h1.trans (j.kp.trans a),b,c,fun e0 => ?_⟩;have q1:=d e0;have q2:=j.z (a.ok e0).1;rw[nsz2] at q1;show nsz (loopP lv sub f (o.node [p,(sub st.next).1]) (sub st.next).2).1+(loopP lv sub f (o.node [p,(sub st.next).1]) (sub st.next).2).2.ts.length≤_;omega
theorem lev_j {lv:Int} {sub:Rdr} {n:Nat} (h:JR nX n sub) (f:Nat):JR nX n (levP lv sub f):=fun st nv tz hl=>by
 have j:=h st nv tz hl;have hle:=j.le;obtain⟨a,b,c,d⟩:=loop_j (lv:=lv) h f (sub st).1 (sub st).2 j.x (j.kp.nv nv) j.tz (by omega);exact⟨j.kp.trans a,b,c,fun e=>by have q1:=d e;have q2:=j.z (a.ok e).1;show nsz (loopP lv sub f (sub st).1 (sub st).2).1+(loopP lv sub f (sub st).1 (sub st).2).2.ts.length≤_;omega⟩
theorem cmp_j {sub:Rdr} {n:Nat} (h:JR nX n sub):JR nX n (cmpP sub):=fun st nv tz hl=>by
 have j:=h st nv tz hl;have hle:=j.le;unfold cmpP PS.takeO;cases e:(sub st).2.oper 3 with
 | none=>exact j
 | some o =>
  have nv2:=j.kp.nv nv;have h1:=next_kp nv2;have hn:=len_next (operT_ne e);have j2:=h (sub st).2.next (h1.nv nv2) j.tz.next (by omega);refine⟨j.kp.trans (h1.trans j2.kp),j2.tz,nX.node2 (oper_k e) j.x j2.x,fun e0 => ?_⟩;have q1:=j2.z e0;have q2:=j.z ((h1.ok (j2.kp.ok e0).1).1);show nsz (o.node [(sub st).1,(sub (sub st).2.next).1])+(sub (sub st).2.next).2.ts.length≤_;rw[nsz2];omega
theorem more_j {len:Nat} {ex:Rdr} {n:Nat} (h:JR nX n ex):∀ (f:Nat) (acc:List PN) (st:PS),(∀ x ∈ acc,nX x)→Nv st→Tz st→st.ts.length < n →
  Kp st (moreP len ex f acc st).2∧Tz (moreP len ex f acc st).2∧(∀ x ∈ (moreP len ex f acc st).1,nX x)∧((moreP len ex f acc st).2.e=0→nszL (moreP len ex f acc st).1+(moreP len ex f acc st).2.ts.length≤nszL acc+st.ts.length)
 | 0,acc,st,hp,nv,tz,hl=>⟨Kp.refl nv,tz,hp,fun _=>Nat.le_refl _⟩
 | f+1,acc,st,hp,nv,tz,hl=>by
  rw[moreP];unfold PS.takeS;cases hc:st.isS ⟨#[44]⟩
  ·exact⟨Kp.refl nv,tz,hp,fun _=>Nat.le_refl _⟩
  ·have h1:=next_kp nv
   have hn:=len_next (isS_ne hc);have j:=h st.next (h1.nv nv) tz.next (by omega);have hle:=j.le;obtain⟨a,b,c,d⟩:=more_j (len:=len) h f (acc++[(ex st.next).1]) (ex st.next).2 (fun x hx=>by rcases List.mem_append.1 hx with hx | hx;exact hp x hx;simp at hx;subst hx;exact j.x) (j.kp.nv (h1.nv nv)) j.tz (by omega);refine⟨h1.trans (j.kp.trans a),b,c,fun e0 => ?_⟩;have q1:=d e0;have q2:=j.z (a.ok e0).1;rw[nszL_append,nszL,nszL] at q1;show nszL (moreP len ex f (acc++[(ex st.next).1]) (ex st.next).2).1+(moreP len ex f (acc++[(ex st.next).1]) (ex st.next).2).2.ts.length≤_;omega
theorem ops_j {len:Nat} {ex:Rdr} {n:Nat} (h:JR nX n ex) (f:Nat) (c:ByteArray) (st:PS) (nv:Nv st) (tz:Tz st) (hl:st.ts.length < n) :
  Kp st (opsP len ex f c st).2∧Tz (opsP len ex f c st).2∧(∀ x ∈ (opsP len ex f c st).1,nX x)∧((opsP len ex f c st).2.e=0→nszL (opsP len ex f c st).1+(opsP len ex f c st).2.ts.length≤st.ts.length):=by
 unfold opsP PS.takeS;cases hc:st.isS c
 ·have j:=h st nv tz hl
  have hle:=j.le;obtain⟨a,b,d,g⟩:=more_j (len:=len) h f [(ex st).1] (ex st).2 (fun x hx=>by simp at hx;subst hx;exact j.x) (j.kp.nv nv) j.tz (by omega);have nv2:=a.nv (j.kp.nv nv);refine⟨j.kp.trans (a.trans (psign_kp nv2 len c)),b.sign len c,d,fun e0 => ?_⟩;have q0:=sign_z (st:=(moreP len ex f [(ex st).1] (ex st).2).2) (len:=len) (c:=c) e0;have q1:=g ((psign_kp nv2 len c).ok e0).1;have q2:=j.z (a.ok ((psign_kp nv2 len c).ok e0).1).1;rw[nszL,nszL] at q1;show nszL (moreP len ex f [(ex st).1] (ex st).2).1+((moreP len ex f [(ex st).1] (ex st).2).2.sign len c).ts.length≤_;omega
 ·have hn:=len_next (isS_ne hc)
  exact⟨next_kp nv,tz.next,fun x hx=>absurd hx (show ¬ x ∈ ([]:List PN) by simp),fun _=>by show nszL []+st.next.ts.length≤_;rw[nszL];omega⟩
theorem nX.leaf {k o:Int} {s:ByteArray} {n:Int} (h4:k≠4) (h5:k≠5) (h6:k≠6) (hs:s.size≤4000):nX ⟨k,o,s,n,[]⟩:=nX.mk h4 h5 h6 hs (fun x h=>by cases h)
theorem nszLeaf (k o:Int) (s:ByteArray) (n:Int):nsz ⟨k,o,s,n,[]⟩=1:=by rw[nsz,nszL]
theorem leaf_j {st:PS} (nv:Nv st) (tz:Tz st) (hne:st.ts≠[]) {k o:Int} {s:ByteArray} {n:Int} (h4:k≠4) (h5:k≠5) (h6:k≠6) (hs:s.size≤4000):JX nX st (⟨k,o,s,n,[]⟩,st.next) :=
 ⟨next_kp nv,tz.next,nX.leaf h4 h5 h6 hs,fun _=>by have:=len_next hne;show nsz ⟨k,o,s,n,[]⟩ + st.next.ts.length≤_;rw[nszLeaf];omega⟩
theorem lit_j (len n:Nat):JR nX n (litP len):=by
 intro st nv tz hl;unfold litP
 split
 ·rename_i h;exact leaf_j nv tz (hd_ne (by rw[h];decide)) (by decide) (by decide) (by decide) (Nat.zero_le _)
 split
 ·rename_i h;exact leaf_j nv tz (hd_ne (by rw[h];decide)) (by decide) (by decide) (by decide) (Nat.zero_le _)
 split
 ·rename_i h;exact leaf_j nv tz (hd_ne (by rw[h];decide)) (by decide) (by decide) (by decide) tz.hd
 split
 ·rename_i h;exact leaf_j nv tz (hd_ne (by rw[h];decide)) (by decide) (by decide) (by decide) tz.hd
 ·exact⟨fail_kp _ _ (by decide),Tz.fail _ _ _,nX.leaf (by decide) (by decide) (by decide) (Nat.zero_le _),fun e=>absurd e (fail_e _ _ (by decide))⟩
theorem inBr_j {len:Nat} {ex:Rdr} {n:Nat} (h:JR nX n ex) (c:ByteArray) {st:PS} (nv:Nv st) (tz:Tz st) (hne:st.ts≠[]) (hl:st.ts.length < n+1) :
  Kp st (inBrP len ex c st).2∧Tz (inBrP len ex c st).2∧nX (inBrP len ex c st).1∧((inBrP len ex c st).2.e=0→nsz (inBrP len ex c st).1+(inBrP len ex c st).2.ts.length+2≤st.ts.length):=by
 have n1:=enter_nv nv len;have k1:=next_kp n1;have n2:=k1.nv n1;have hln:(st.enter len).next.ts.length < n:=by
  have h9:=next_le (st.enter len);have h8:=enter_le st len;by_cases h0:(st.enter len).ts = []
  ·have:(st.enter len).next.ts = []:=by show (st.enter len).ts.tail = [];rw[h0];rfl
   rw[this];have:=List.length_pos_iff.2 hne;show 0 < n;omega
  ·have:=len_next h0;omega
 have j:=h (st.enter len).next n2 (tz.enter len).next hln;have n3:=j.kp.nv n2;have kS:=psign_kp n3 len c;refine⟨br_kp nv (k1.trans (j.kp.trans kS)),(j.tz.sign len c),j.x,fun e0 => ?_⟩;have e1:((ex (st.enter len).next).2.sign len c).e=0:=e0;have q0:=sign_z e1;have q1:=j.z (kS.ok e1).1;have e2:(st.enter len).e=0:=(k1.ok (j.kp.ok (kS.ok e1).1).1).1;have q2:=enter_z e2;have q3:=len_next (st:=st.enter len) (by rw[q2];exact hne);show nsz (ex (st.enter len).next).1+((ex (st.enter len).next).2.sign len c).ts.length+2≤_;rw[q2] at q3;omega
theorem sgl_j {len:Nat} {ex:Rdr} {n:Nat} (h:JR nX n ex) (f:Nat):JR nX (n+1) (sglP len ex f):=by
 intro st nv tz hl;unfold sglP
 split
 ·rename_i hs
  obtain⟨a,b,c,d⟩:=inBr_j (len:=len) h ⟨#[41]⟩ nv tz (isS_ne hs) hl;exact⟨a,b,c,fun e=>by have:=d e;omega⟩
 split
 ·rename_i hs
  have n1:=enter_nv nv len;have k1:=psign_kp n1 len ⟨#[91]⟩;have n2:=k1.nv n1;have h8:=enter_le st len;have hp:=List.length_pos_iff.2 (isS_ne hs);have hlt:((st.enter len).sign len ⟨#[91]⟩).ts.length < n:=by
   by_cases e0:((st.enter len).sign len ⟨#[91]⟩).e=0
   ·have:=sign_z e0;omega
   ·rw[k1.nil e0];show 0 < n;omega
  obtain⟨a,b,c,d⟩:=ops_j (len:=len) h f ⟨#[93]⟩ _ n2 ((tz.enter len).sign len _) hlt;refine⟨br_kp nv (k1.trans a),b,nX.mk (by decide) (by decide) (by decide) (Nat.zero_le _) c,fun e0 => ?_⟩;have e1:(opsP len ex f ⟨#[93]⟩ ((st.enter len).sign len ⟨#[91]⟩)).2.e=0:=e0;have q1:=d e1;have q2:=sign_z (a.ok e1).1;show nsz ⟨21,0,zE,0,(opsP len ex f ⟨#[93]⟩ ((st.enter len).sign len ⟨#[91]⟩)).1⟩ + (opsP len ex f ⟨#[93]⟩ ((st.enter len).sign len ⟨#[91]⟩)).2.ts.length≤_;rw[nsz];omega
 split
 ·rename_i hs;exact leaf_j nv tz (isW_ne hs) (by decide) (by decide) (by decide) (Nat.zero_le _)
 split
 ·rename_i hs
  have hne:st.ts≠[]:=hd_ne (by
   unfold PS.isCall at hs;rw[Bool.and_eq_true] at hs;have:(hdT st.ts 0).k=1:=by simpa using hs.1
   rw[this];decide)
  have n1:=enter_nv nv len;have k0:=name_kp n1 len;have n1':=k0.nv n1;have k1:=psign_kp n1' len ⟨#[40]⟩;have n2:=k1.nv n1';have h8:=enter_le st len;have h7:=name_le (st.enter len) len;have hp:=List.length_pos_iff.2 hne;have hlt:(((st.enter len).name len).2.sign len ⟨#[40]⟩).ts.length < n:=by
   by_cases e0:(((st.enter len).name len).2.sign len ⟨#[40]⟩).e=0
   ·have:=sign_z e0;omega
   ·rw[k1.nil e0];show 0 < n;omega
  obtain⟨a,b,c,d⟩:=ops_j (len:=len) h f ⟨#[41]⟩ _ n2 (((tz.enter len).name len).sign len _) hlt;refine⟨br_kp nv (k0.trans (k1.trans a)),b,nX.mk (by decide) (by decide) (by decide) ((tz.enter len).nm len) c,fun e0 => ?_⟩;have e1:(opsP len ex f ⟨#[41]⟩ (((st.enter len).name len).2.sign len ⟨#[40]⟩)).2.e=0:=e0;have q1:=d e1;have q2:=sign_z (a.ok e1).1;show nsz ⟨20,0,((st.enter len).name len).1,0,(opsP len ex f ⟨#[41]⟩ (((st.enter len).name len).2.sign len ⟨#[40]⟩)).1⟩ + (opsP len ex f ⟨#[41]⟩ (((st.enter len).name len).2.sign len ⟨#[40]⟩)).2.ts.length≤_;rw[nsz];omega
 ·exact lit_j len (n+1) st nv tz hl
theorem ixLoop_j {len:Nat} {ex:Rdr} {n:Nat} (h:JR nX n ex):∀ (f:Nat) (p:PN) (st:PS),nX p→Nv st→Tz st→st.ts.length < n+1 →
  Kp st (ixLoopP len ex f p st).2∧Tz (ixLoopP len ex f p st).2∧nX (ixLoopP len ex f p st).1∧((ixLoopP len ex f p st).2.e=0→nsz (ixLoopP len ex f p st).1+(ixLoopP len ex f p st).2.ts.length≤nsz p+st.ts.length)
 | 0,p,st,hp,nv,tz,hl=>⟨Kp.refl nv,tz,hp,fun _=>Nat.le_refl _⟩
 | f+1,p,st,hp,nv,tz,hl=>by
  rw[ixLoopP];cases e:st.oper 7 with
  | none=>exact⟨Kp.refl nv,tz,hp,fun _=>Nat.le_refl _⟩
  | some o =>
   obtain⟨a,b,c,d⟩:=inBr_j (len:=len) h ⟨#[93]⟩ nv tz (operT_ne e) hl;have hle:(inBrP len ex ⟨#[93]⟩ st).2.ts.length≤st.ts.length:=by
    by_cases e0:(inBrP len ex ⟨#[93]⟩ st).2.e=0
    ·have:=d e0;omega
    ·rw[a.nil e0];exact Nat.zero_le _
   obtain⟨a2,b2,c2,d2⟩:=ixLoop_j (len:=len) h f (o.node [p,(inBrP len ex ⟨#[93]⟩ st).1]) (inBrP len ex ⟨#[93]⟩ st).2 (nX.node2 (oper_k e) hp c) (a.nv nv) b (by omega);refine⟨a.trans a2,b2,c2,fun e0 => ?_⟩;have q1:=d2 e0;have q2:=d (a2.ok e0).1;rw[nsz2] at q1;show nsz (ixLoopP len ex f (o.node [p,(inBrP len ex ⟨#[93]⟩ st).1]) (inBrP len ex ⟨#[93]⟩ st).2).1+(ixLoopP len ex f (o.node [p,(inBrP len ex ⟨#[93]⟩ st).1]) (inBrP len ex ⟨#[93]⟩ st).2).2.ts.length≤_;omega
theorem idx_j {len:Nat} {ex:Rdr} {n:Nat} (h:JR nX n ex) (f:Nat):JR nX (n+1) (idxP len ex f):=fun st nv tz hl=>by
 have j:=sgl_j (len:=len) h f st nv tz hl;have hle:=j.le;obtain⟨a,b,c,d⟩:=ixLoop_j (len:=len) h f (sglP len ex f st).1 (sglP len ex f st).2 j.x (j.kp.nv nv) j.tz (by omega);exact⟨j.kp.trans a,b,c,fun e=>by have q1:=d e;have q2:=j.z (a.ok e).1;show nsz (ixLoopP len ex f (sglP len ex f st).1 (sglP len ex f st).2).1+(ixLoopP len ex f (sglP len ex f st).1 (sglP len ex f st).2).2.ts.length≤_;omega⟩
theorem sgn_j {len:Nat} {sg ex:Rdr} {n:Nat} (hs:JR nX n sg) (h:JR nX n ex) (f:Nat):JR nX (n+1) (sgnP len sg ex f):=by
 intro st nv tz hl;unfold sgnP;cases e:st.oper 6 with
 | none=>exact idx_j h f st nv tz hl
 | some o =>
  have hne:=operT_ne e;have n1:=enter_nv nv len;have k1:=next_kp n1;have n2:=k1.nv n1;have hln:(st.enter len).next.ts.length < n:=by
   have h9:=next_le (st.enter len);have h8:=enter_le st len;by_cases h0:(st.enter len).ts = []
   ·have:(st.enter len).next.ts = []:=by show (st.enter len).ts.tail = [];rw[h0];rfl
    rw[this];have:=List.length_pos_iff.2 hne;show 0 < n;omega
   ·have:=len_next h0;omega
  have j:=hs (st.enter len).next n2 (tz.enter len).next hln;have ho:=oper_k e;refine⟨br_kp nv (k1.trans j.kp),j.tz,nX.mk ho.1 ho.2.1 ho.2.2 (Nat.zero_le _) (fun x hx=>by simp at hx;subst hx;exact j.x),fun e0 => ?_⟩;have e1:(sg (st.enter len).next).2.e=0:=e0;have q1:=j.z e1;have e2:(st.enter len).e=0:=(k1.ok (j.kp.ok e1).1).1;have q2:=enter_z e2;have q3:=len_next (st:=st.enter len) (by rw[q2];exact hne);show nsz ⟨o.k,o.o,zE,0,[(sg (st.enter len).next).1]⟩ + (sg (st.enter len).next).2.ts.length≤_;rw[nsz,nszL,nszL];rw[q2] at q3;omega
theorem both_j (len:Nat):∀ f,JR nX f (bothP len f).1∧JR nX f (bothP len f).2
 | 0=>⟨fun _ _ _ h=>absurd h (Nat.not_lt_zero _),fun _ _ _ h=>absurd h (Nat.not_lt_zero _)⟩
 | f+1=>by
  obtain⟨h1,h2⟩:=both_j len f;have e1:(bothP len (f+1)).1=sgnP len (bothP len f).1 (bothP len f).2 (f+1):=by rw[bothP]
  have e2:(bothP len (f+1)).2=orP (sgnP len (bothP len f).1 (bothP len f).2 (f+1)) (f+1):=by rw[bothP]
  rw[e1,e2];have g6:=sgn_j (len:=len) h1 h2 (f+1);exact⟨g6,lev_j (lev_j (cmp_j (lev_j (lev_j g6 _) _)) _) _⟩
theorem ex_j (len f:Nat):JR nX f (exP len f):=(both_j len f).2
end
section
theorem gX.one {a:PN} {k o:Int} {s:ByteArray} {n:Int} (hk:k≠4∧k≠5∧k≠6) (hs:s.size≤4000) (h:gX a):gX ⟨k,o,s,n,[a]⟩ :=
 gX.mk hs (fun e=>absurd e hk.1) (fun e=>e.elim (fun e=>absurd e hk.2.1) (fun e=>absurd e hk.2.2)) (fun x hx=>by simp at hx;subst hx;exact h)
theorem gX.two {a b:PN} {k o:Int} {s:ByteArray} {n:Int} (hk:k≠4∧k≠5∧k≠6) (hs:s.size≤4000) (h:gX a) (h2:gX b):gX ⟨k,o,s,n,[a,b]⟩ :=
 gX.mk hs (fun e=>absurd e hk.1) (fun e=>e.elim (fun e=>absurd e hk.2.1) (fun e=>absurd e hk.2.2)) (fun x hx=>by simp at hx;rcases hx with rfl | rfl;exact h;exact h2)
theorem gX.three {a b c:PN} {k o:Int} {s:ByteArray} {n:Int} (hk:k≠4∧k≠5∧k≠6) (hs:s.size≤4000) (h:gX a) (h2:gX b) (h3:gX c):gX ⟨k,o,s,n,[a,b,c]⟩ :=
 gX.mk hs (fun e=>absurd e hk.1) (fun e=>e.elim (fun e=>absurd e hk.2.1) (fun e=>absurd e hk.2.2)) (fun x hx=>by simp at hx;rcases hx with rfl | rfl | rfl;exact h;exact h2;exact h3)
theorem nsz1 (k o:Int) (s:ByteArray) (n:Int) (a:PN):nsz ⟨k,o,s,n,[a]⟩=1+nsz a:=by rw[nsz,nszL,nszL];omega
theorem nszB (k o:Int) (s:ByteArray) (n:Int) (a b:PN):nsz ⟨k,o,s,n,[a,b]⟩=1+nsz a+nsz b:=by rw[nsz,nszL,nszL,nszL];omega
theorem nszC (k o:Int) (s:ByteArray) (n:Int) (a b c:PN):nsz ⟨k,o,s,n,[a,b,c]⟩=1+nsz a+nsz b+nsz c:=by rw[nsz,nszL,nszL,nszL,nszL];omega
theorem ofEx_j {len:Nat} {ex:Rdr} {n:Nat} (h:JR nX n ex) {k:Int} (hk:k≠4∧k≠5∧k≠6):JR gX n (ofExP len ex k):=fun st nv tz hl=>by
 have j:=h st nv tz hl;have kS:=psign_kp (j.kp.nv nv) len ⟨#[59]⟩;refine⟨j.kp.trans kS,j.tz.sign len _,gX.one hk (Nat.zero_le _) j.x.g,fun e0 => ?_⟩;have e1:((ex st).2.sign len ⟨#[59]⟩).e=0:=e0;have q1:=sign_z e1;have q2:=j.z (kS.ok e1).1;show nsz ⟨k,0,zE,0,[(ex st).1]⟩ + ((ex st).2.sign len ⟨#[59]⟩).ts.length≤_;rw[nsz1];omega
theorem plain_j (len:Nat) (k:Int) (n:Nat) (hk:k≠4):JR gX n (plainP len k):=fun st nv tz hl=>by
 refine⟨psign_kp nv len _,tz.sign len _,gX.mk (Nat.zero_le _) (fun e=>absurd e hk) (fun _=>rfl) (fun x h=>by cases h),fun e0 => ?_⟩;have e1:(st.sign len ⟨#[59]⟩).e=0:=e0;have q1:=sign_z e1;show nsz ⟨k,0,zE,0,[]⟩ + (st.sign len ⟨#[59]⟩).ts.length≤_;rw[nszLeaf];omega
theorem answer_j {len:Nat} {ex:Rdr} {n:Nat} (h:JR nX n ex):JR gX n (answerP len ex):=by
 intro st nv tz hl;unfold answerP
 split
 ·exact plain_j len 7 n (by decide) st nv tz hl
 ·exact ofEx_j h (by decide) st nv tz hl
theorem named_j {len:Nat} {ex:Rdr} {n:Nat} (h:JR nX n ex) {k:Int} (hk:k≠4∧k≠5∧k≠6):JR gX n (namedP len ex k):=fun st nv tz hl=>by
 have k1:=name_kp nv len;have n1:=k1.nv nv;have k2:=psign_kp n1 len ⟨#[61]⟩;have h1:=name_le st len;have h2:=psign_le (st.name len).2 len ⟨#[61]⟩;have t2:=(tz.name len).sign len ⟨#[61]⟩;have j:=ofEx_j (len:=len) h hk ((st.name len).2.sign len ⟨#[61]⟩) (k2.nv n1) t2 (by omega);have jx:=h ((st.name len).2.sign len ⟨#[61]⟩) (k2.nv n1) t2 (by omega);refine⟨k1.trans (k2.trans j.kp),j.tz,gX.one hk (tz.nm len) jx.x.g,fun e0 => ?_⟩;have e1:(ofExP len ex k ((st.name len).2.sign len ⟨#[61]⟩)).2.e=0:=e0;have q1:=j.z e1;show nsz ⟨k,0,(st.name len).1,0,[(ex ((st.name len).2.sign len ⟨#[61]⟩)).1]⟩ + (ofExP len ex k ((st.name len).2.sign len ⟨#[61]⟩)).2.ts.length≤_;have q2:nsz (ofExP len ex k ((st.name len).2.sign len ⟨#[61]⟩)).1=1+nsz (ex ((st.name len).2.sign len ⟨#[61]⟩)).1:=nsz1 _ _ _ _ _;rw[nsz1];omega
theorem blkLoop_j {sm:Rdr} {n:Nat} (h:JR gX n sm):∀ (f:Nat) (acc:List PN) (st:PS),(∀ x ∈ acc,gX x)→Nv st→Tz st→st.ts.length < n →
  Kp st (blkLoop sm f acc st).2∧Tz (blkLoop sm f acc st).2∧(∀ x ∈ (blkLoop sm f acc st).1,gX x)∧((blkLoop sm f acc st).2.e=0→nszL (blkLoop sm f acc st).1+(blkLoop sm f acc st).2.ts.length≤nszL acc+st.ts.length)
 | 0,acc,st,hp,nv,tz,hl=>⟨Kp.refl nv,tz,hp,fun _=>Nat.le_refl _⟩
 | f+1,acc,st,hp,nv,tz,hl=>by
  rw[blkLoop]
  split
  ·exact⟨Kp.refl nv,tz,hp,fun _=>Nat.le_refl _⟩
  ·have j:=h st nv tz hl
   have hle:=j.le;obtain⟨a,b,c,d⟩:=blkLoop_j h f (acc++[(sm st).1]) (sm st).2 (fun x hx=>by rcases List.mem_append.1 hx with hx | hx;exact hp x hx;simp at hx;subst hx;exact j.x) (j.kp.nv nv) j.tz (by omega);refine⟨j.kp.trans a,b,c,fun e0 => ?_⟩;have q1:=d e0;have q2:=j.z (a.ok e0).1;rw[nszL_append,nszL,nszL] at q1;omega
theorem blk_j {len:Nat} {sm:Rdr} {n:Nat} (h:JR gX n sm) (f:Nat):JR gX (n+1) (blkP len sm f):=by
 intro st nv tz hl;unfold blkP
 split
 ·rename_i hs
  have hne:=isS_ne hs;have n1:=enter_nv nv len;have k1:=next_kp n1;have n2:=k1.nv n1;have hln:(st.enter len).next.ts.length < n:=by
   have h9:=next_le (st.enter len);have h8:=enter_le st len;by_cases h0:(st.enter len).ts = []
   ·have:(st.enter len).next.ts = []:=by show (st.enter len).ts.tail = [];rw[h0];rfl
    rw[this];have:=List.length_pos_iff.2 hne;show 0 < n;omega
   ·have:=len_next h0;omega
  obtain⟨a,b,c,d⟩:=blkLoop_j h f [] (st.enter len).next (fun x hx=>by cases hx) n2 (tz.enter len).next hln;have n3:=a.nv n2;have kS:=psign_kp n3 len ⟨#[125]⟩;refine⟨br_kp nv (k1.trans (a.trans kS)),b.sign len _,gX.mk (Nat.zero_le _) (fun e=>absurd e (by decide)) (fun e=>absurd e (by decide)) c,fun e0 => ?_⟩;have e1:((blkLoop sm f [] (st.enter len).next).2.sign len ⟨#[125]⟩).e=0:=e0;have q0:=sign_z e1;have q1:=d (kS.ok e1).1;have e2:(st.enter len).e=0:=(k1.ok (a.ok (kS.ok e1).1).1).1;have q2:=enter_z e2;have q3:=len_next (st:=st.enter len) (by rw[q2];exact hne);show nsz ⟨10,0,zE,0,(blkLoop sm f [] (st.enter len).next).1⟩ + ((blkLoop sm f [] (st.enter len).next).2.sign len ⟨#[125]⟩).ts.length≤_;rw[nsz];rw[q2] at q3;rw[nszL] at q1;omega
 ·exact⟨fail_kp _ _ (by decide),Tz.fail _ _ _,gX.mk (Nat.zero_le _) (fun e=>absurd e (by decide)) (fun e=>absurd e (by decide)) (fun x h=>by cases h),fun e=>absurd e (fail_e _ _ (by decide))⟩
def JC (n:Nat) (ch:Rdr):Prop:=∀ st,Nv st→Tz st→st.ts.length < n→Kp st (ch st).2∧Tz (ch st).2∧gX (ch st).1∧((ch st).2.e=0→nsz (ch st).1+(ch st).2.ts.length≤st.ts.length+1)
theorem cho_j {ex bl ch bo:Rdr} {n:Nat} (h:JR nX (n+1) ex) (hb:JR gX (n+1) bl) (hc:JC n ch) (ho:JR gX n bo):JC (n+1) (choP ex bl (othP ch bo)):=by
 intro st nv tz hl;have j1:=h st nv tz hl;have n1:=j1.kp.nv nv;have l1:=j1.le;have j2:=hb (ex st).2 n1 j1.tz (by omega);have n2:=j2.kp.nv n1;have l2:=j2.le;unfold choP
 split
 ·rename_i hw
  have hne:=isW_ne hw;have k3:=next_kp n2;have n3:=k3.nv n2;have q3:=len_next hne;have t3:=j2.tz.next;unfold othP
  split
  ·rename_i hi
   have hne2:=isW_ne hi;have k4:=next_kp n3;have q4:=len_next hne2;obtain⟨a,b,c,d⟩:=hc (bl (ex st).2).2.next.next (k4.nv n3) t3.next (by omega);refine⟨j1.kp.trans (j2.kp.trans (k3.trans (k4.trans a))),b,gX.three (by decide) (Nat.zero_le _) j1.x.g j2.x (gX.one (by decide) (Nat.zero_le _) c),fun e0 => ?_⟩;have e1:(ch (bl (ex st).2).2.next.next).2.e=0:=e0;have z1:=d e1;have e2:(bl (ex st).2).2.e=0:=(k3.ok (k4.ok (a.ok e1).1).1).1;have z2:=j2.z e2;have z3:=j1.z (j2.kp.ok e2).1;show nsz ⟨3,0,zE,0,[(ex st).1,(bl (ex st).2).1,⟨10,0,zE,0,[(ch (bl (ex st).2).2.next.next).1]⟩]⟩ + (ch (bl (ex st).2).2.next.next).2.ts.length≤_;rw[nszC,nsz1];omega
  ·have j3:=ho (bl (ex st).2).2.next n3 t3 (by omega)
   refine⟨j1.kp.trans (j2.kp.trans (k3.trans j3.kp)),j3.tz,gX.three (by decide) (Nat.zero_le _) j1.x.g j2.x j3.x,fun e0 => ?_⟩;have e1:(bo (bl (ex st).2).2.next).2.e=0:=e0;have z1:=j3.z e1;have e2:(bl (ex st).2).2.e=0:=(k3.ok (j3.kp.ok e1).1).1;have z2:=j2.z e2;have z3:=j1.z (j2.kp.ok e2).1;show nsz ⟨3,0,zE,0,[(ex st).1,(bl (ex st).2).1,(bo (bl (ex st).2).2.next).1]⟩ + (bo (bl (ex st).2).2.next).2.ts.length≤_;rw[nszC];omega
 ·refine⟨j1.kp.trans j2.kp,j2.tz,gX.two (by decide) (Nat.zero_le _) j1.x.g j2.x,fun e0 => ?_⟩
  have e2:(bl (ex st).2).2.e=0:=e0;have z2:=j2.z e2;have z3:=j1.z (j2.kp.ok e2).1;show nsz ⟨3,0,zE,0,[(ex st).1,(bl (ex st).2).1]⟩ + (bl (ex st).2).2.ts.length≤_;rw[nszB];omega
theorem ahead_j {st:PS} {r:PN × PS} (nv:Nv st) (hne:st.ts≠[]) (h:JX gX st.next r):JX gX st r:=⟨(next_kp nv).trans h.kp,h.tz,h.x,fun e=>by have:=h.z e;have:=len_next hne;omega⟩
theorem stm_j {len:Nat} {ex bl ch:Rdr} {n:Nat} (h:JR nX (n+1) ex) (hb:JR gX n bl) (hc:JC n ch):JR gX (n+1) (stmP len ex bl ch):=by
 intro st nv tz hl;have k:=next_kp nv;have m:=k.nv nv;have l:=next_le st;have tn:=tz.next;unfold stmP
 split
 ·rename_i hw;exact ahead_j nv (isW_ne hw) (named_j h (by decide) _ m tn (by omega))
 split
 ·exact named_j h (by decide) st nv tz hl
 split
 ·rename_i hw
  have q:=len_next (isW_ne hw);obtain⟨a,b,c,d⟩:=hc st.next m tn (by omega);exact⟨k.trans a,b,c,fun e=>by have:=d e;omega⟩
 split
 ·rename_i hw
  have q:=len_next (isW_ne hw);have j1:=h st.next m tn (by omega);have n1:=j1.kp.nv m;have l1:=j1.le;have j2:=hb (ex st.next).2 n1 j1.tz (by omega);refine⟨k.trans (j1.kp.trans j2.kp),j2.tz,gX.mk (Nat.zero_le _) (fun _=>⟨_,_,rfl,j1.x⟩) (fun e=>absurd e (by decide)) (fun x hx=>by simp at hx;rcases hx with rfl | rfl;exact j1.x.g;exact j2.x),fun e0 => ?_⟩;have e2:(bl (ex st.next).2).2.e=0:=e0;have z2:=j2.z e2;have z3:=j1.z (j2.kp.ok e2).1;show nsz ⟨4,0,zE,0,[(ex st.next).1,(bl (ex st.next).2).1]⟩ + (bl (ex st.next).2).2.ts.length≤_;rw[nszB];omega
 split
 ·rename_i hw;exact ahead_j nv (isW_ne hw) (plain_j len 5 (n+1) (by decide) _ m tn (by omega))
 split
 ·rename_i hw;exact ahead_j nv (isW_ne hw) (plain_j len 6 (n+1) (by decide) _ m tn (by omega))
 split
 ·rename_i hw;exact ahead_j nv (isW_ne hw) (answer_j h _ m tn (by omega))
 split
 ·rename_i hw;exact ahead_j nv (isW_ne hw) (ofEx_j h (by decide) _ m tn (by omega))
 ·exact ofEx_j h (by decide) st nv tz hl
theorem JR.mono {X:PN→Prop} {n m:Nat} {rd:Rdr} (h:JR X n rd) (hm:m≤n):JR X m rd:=fun st nv tz hl=>h st nv tz (Nat.lt_of_lt_of_le hl hm)
theorem sts_j (len fe:Nat) (f:Nat):f≤fe→JR gX f (stsP len fe f).1∧JR gX f (stsP len fe f).2.1∧JC f (stsP len fe f).2.2:=by
 induction f with
 | zero=>exact fun _=>⟨fun _ _ _ h=>absurd h (Nat.not_lt_zero _),fun _ _ _ h=>absurd h (Nat.not_lt_zero _),fun _ _ _ h=>absurd h (Nat.not_lt_zero _)⟩
 | succ f ih =>
  intro hf;obtain⟨h1,h2,h3⟩:=ih (by omega);have hx:JR nX (f+1) (exP len fe):=(ex_j len fe).mono hf;have e1:(stsP len fe (f+1)).1=stmP len (exP len fe) (stsP len fe f).2.1 (stsP len fe f).2.2:=by rw[stsP]
  have e2:(stsP len fe (f+1)).2.1=blkP len (stsP len fe f).1 (f+1):=by rw[stsP]
  have e3:(stsP len fe (f+1)).2.2=choP (exP len fe) (blkP len (stsP len fe f).1 (f+1)) (othP (stsP len fe f).2.2 (stsP len fe f).2.1):=by rw[stsP]
  rw[e1,e2,e3];exact⟨stm_j hx h2 h3,blk_j h1 _,cho_j hx (blk_j h1 _) h3 h2⟩
def fX (p:PFn):Prop:=p.nm.size≤4000∧(∀ s ∈ p.ps,s.size≤4000)∧gX p.bd
theorem parLoop_j (len:Nat):∀ (f:Nat) (acc:List ByteArray) (st:PS),(∀ s ∈ acc,s.size≤4000)→Nv st→Tz st→Kp st (parLoop len f acc st).2∧Tz (parLoop len f acc st).2∧∀ s ∈ (parLoop len f acc st).1,s.size≤4000
 | 0,acc,st,ha,nv,tz=>⟨Kp.refl nv,tz,ha⟩
 | f+1,acc,st,ha,nv,tz=>by
  rw[parLoop]
  split
  ·have k1:=next_kp nv
   have n1:=k1.nv nv;have k2:=name_kp n1 len;obtain⟨a,b,c⟩:=parLoop_j len f (acc++[(st.next.name len).1]) (st.next.name len).2 (fun s hs=>by rcases List.mem_append.1 hs with hs | hs;exact ha s hs;simp at hs;subst hs;exact tz.next.nm len) (k2.nv n1) (tz.next.name len);exact⟨k1.trans (k2.trans a),b,c⟩
  ·exact⟨Kp.refl nv,tz,ha⟩
theorem par_j (len f:Nat) (st:PS) (nv:Nv st) (tz:Tz st):Kp st (parP len f st).2∧Tz (parP len f st).2∧∀ s ∈ (parP len f st).1,s.size≤4000:=by
 unfold parP
 split
 ·exact⟨next_kp nv,tz.next,fun s h=>by cases h⟩
 ·have k1:=name_kp nv len
  obtain⟨a,b,c⟩:=parLoop_j len f [(st.name len).1] (st.name len).2 (fun s hs=>by simp at hs;subst hs;exact tz.nm len) (k1.nv nv) (tz.name len);exact⟨k1.trans (a.trans (psign_kp (a.nv (k1.nv nv)) len _)),b.sign len _,c⟩
theorem fun_j {len:Nat} {bl:Rdr} {n:Nat} (hb:JR gX n bl) (f:Nat) (st:PS) (nv:Nv st) (tz:Tz st) (hl:st.ts.length < n) :
  Kp st (funP len bl f st).2∧Tz (funP len bl f st).2∧fX (funP len bl f st).1∧((funP len bl f st).2.e=0→nsz (funP len bl f st).1.bd+(funP len bl f st).2.ts.length≤st.ts.length):=by
 have k1:=pword_kp nv len ⟨#[102,110]⟩;have n1:=k1.nv nv;have t1:=tz.word len ⟨#[102,110]⟩;have l1:=word_le st len ⟨#[102,110]⟩;have k2:=name_kp n1 len;have n2:=k2.nv n1;have t2:=t1.name len;have l2:=name_le (st.word len ⟨#[102,110]⟩) len;have k3:=psign_kp n2 len ⟨#[40]⟩;have n3:=k3.nv n2;have l3:=psign_le ((st.word len ⟨#[102,110]⟩).name len).2 len ⟨#[40]⟩;obtain⟨a,b,c⟩:=par_j len f _ n3 (t2.sign len ⟨#[40]⟩);have l4:=par_le len f (((st.word len ⟨#[102,110]⟩).name len).2.sign len ⟨#[40]⟩);have j:=hb (funB len f st).2 (a.nv n3) b (by show (parP len f (((st.word len ⟨#[102,110]⟩).name len).2.sign len ⟨#[40]⟩)).2.ts.length < n;omega);refine⟨k1.trans (k2.trans (k3.trans (a.trans j.kp))),j.tz,⟨t1.nm len,c,j.x⟩,fun e0 => ?_⟩;have e1:(bl (funB len f st).2).2.e=0:=e0;have z:=j.z e1
 show nsz (bl (funB len f st).2).1+(bl (funB len f st).2).2.ts.length≤_;have l5:(funB len f st).2.ts.length≤st.ts.length:=by show (parP len f (((st.word len ⟨#[102,110]⟩).name len).2.sign len ⟨#[40]⟩)).2.ts.length≤_;omega
 omega
def nszF:List PFn→Nat
 | [] => 0
 | p :: l=>nsz p.bd+nszF l
theorem nszF_append:∀ (a b:List PFn),nszF (a++b)=nszF a+nszF b
 | [],b=>by simp[nszF]
 | p :: a,b=>by rw[List.cons_append,nszF,nszF,nszF_append a b];omega
theorem funs_j {len:Nat} {bl:Rdr} {n:Nat} (hb:JR gX n bl) (f:Nat):∀ (j:Nat) (acc:List PFn) (st:PS),(∀ p ∈ acc,fX p)→Nv st→Tz st→st.ts.length < n →
  (∀ p ∈ (funsP len bl f j acc st).1,fX p)∧Kp st (funsP len bl f j acc st).2∧((funsP len bl f j acc st).2.e=0→nszF (funsP len bl f j acc st).1+(funsP len bl f j acc st).2.ts.length≤nszF acc+st.ts.length)
 | 0,acc,st,ha,nv,tz,hl=>⟨ha,Kp.refl nv,fun _=>Nat.le_refl _⟩
 | j+1,acc,st,ha,nv,tz,hl=>by
  rw[funsP]
  split
  ·exact⟨ha,Kp.refl nv,fun _=>Nat.le_refl _⟩
  ·obtain⟨a,b,c,d⟩:=fun_j (len:=len) hb f st nv tz hl
   have hle:(funP len bl f st).2.ts.length≤st.ts.length:=by
    by_cases e0:(funP len bl f st).2.e=0
    ·have:=d e0;omega
    ·rw[a.nil e0];exact Nat.zero_le _
   obtain⟨u,v,x⟩:=funs_j (len:=len) hb f j (acc++[(funP len bl f st).1]) (funP len bl f st).2 (fun p hp=>by rcases List.mem_append.1 hp with hp | hp;exact ha p hp;simp at hp;subst hp;exact c) (a.nv nv) b (by omega);refine⟨u,a.trans v,fun e0 => ?_⟩;have z1:=x e0;have z2:=d (v.ok e0).1;rw[nszF_append,nszF,nszF] at z1;omega
end
section
open Go.RowKit Go.Maps
def lkp (lm:List (ByteArray × Int)) (s:ByteArray):Option Int:=(lm.find? (fun p=>p.1.data.toList == s.data.toList)).map (·.2)
def biL:List (ByteArray × Int × Int):=[(⟨#[112,117,115,104]⟩,13,2),(⟨#[99,120]⟩,14,2),(⟨#[108,101,110]⟩,17,1),(⟨#[114,101]⟩,18,1),(⟨#[105,109]⟩,19,1),(⟨#[99,111,110,106]⟩,20,1)]
def biP (s:ByteArray):Option (Int × Int):=(biL.find? (fun p=>p.1.data.toList == s.data.toList)).map (·.2)
def nums:List PFn→Nat→List (ByteArray × Int)→Option (List (ByteArray × Int))
 | [],_,nm=>some nm
 | p :: r,i,nm=>if (lkp nm p.nm).isSome || (biP p.nm).isSome then none else nums r (i+1) ((p.nm,(i:Int)) :: nm)
structure PSc where
 lc:Int
 sl:List Int
 cl:List Int
end
section
open Go.RowKit Go.Maps
structure DK where
 see:List (ByteArray × Int)
 lp:Int
 lc:Int
 sl:List Int
 cl:List Int
 e:Int
def fnd (see:List (ByteArray × Int)) (s:ByteArray):Option Int:=lkp see.reverse s
def DK.use (d:DK) (s:ByteArray):DK:=match fnd d.see s with
 | none => { d with e:=11 }
 | some v => { d with sl:=d.sl++[v] }
def DK.letD (d:DK) (s:ByteArray):DK:=if d.e≠0 then d else if (fnd d.see s).isSome then { d with e:=11 } else { d with see:=d.see++[(s,d.lc)],sl:=d.sl++[d.lc],lc:=d.lc+1 }
def idxF:List PFn→ByteArray→Nat→Option Nat
 | [],_,_=>none
 | p :: r,s,i=>if p.nm.data.toList == s.data.toList then some i else idxF r s (i+1)
def DK.callD (d:DK) (fs:List PFn) (s:ByteArray) (n:Nat):DK:=if d.e≠0 then d else match idxF fs s 0 with
 | some i=>if ((fs[i]?).map (·.ps.length)).getD 0≠n then { d with e:=12 } else { d with cl:=d.cl++[(i:Int)] }
 | none=>match biP s with
  | none => { d with e:=11 }
  | some (op,k)=>if k≠(n:Int) then { d with e:=12 } else { d with cl:=d.cl++[1000+op] }
def dEnd (fs:List PFn) (k:Int) (s:ByteArray) (n mark:Nat) (d:DK):DK :=
 if k=1 then d.letD s else if k=10 then { d with see:=d.see.take mark } else if k=20 then d.callD fs s n else d
def dBeg (k:Int) (s:ByteArray) (d:DK):DK:=if k=2∨k=19 then d.use s else d
def dW (fs:List PFn):Nat→PN→DK→DK
 | 0,_,d=>d
 | f+1,p,d=>if d.e≠0 then d else
  if p.k=4 then (match p.l with
   | [c,b] => { dW fs f b { dW fs f c d with lp:=(dW fs f c d).lp+1 } with lp:=(dW fs f b { dW fs f c d with lp:=(dW fs f c d).lp+1 }).lp - 1 }
   | _=>d)
  else if p.k=5∨p.k=6 then (if d.lp=0 then { d with e:=11 } else d)
  else dEnd fs p.k p.s p.l.length d.see.length (p.l.foldl (fun d x=>dW fs f x d) (dBeg p.k p.s d))
theorem dW_bad (fs:List PFn):∀ (f:Nat) (p:PN) (d:DK),d.e≠0→dW fs f p d=d
 | 0,p,d,h=>rfl
 | f+1,p,d,h=>by rw[dW,if_pos h]
theorem lkp_c (s s':ByteArray) (v:Int) (r:List (ByteArray × Int)):lkp ((s',v) :: r) s=if s'.data.toList == s.data.toList then some v else lkp r s:=by
 unfold lkp;rw[List.find?_cons];cases h:(s'.data.toList == s.data.toList) <;> simp[h]
theorem biP_op {s:ByteArray} {op n:Int} (h:biP s=some (op,n)):0≤op∧op≤20:=by
 unfold biP at h;cases hf:biL.find? (fun p=>p.1.data.toList == s.data.toList) with
 | none=>rw[hf] at h;cases h
 | some q =>
  rw[hf] at h;have hm:=List.mem_of_find?_eq_some hf;have hall:biL.all (fun q=>decide (0≤q.2.1) && decide (q.2.1≤20))=true:=by decide +kernel
  have h2:=List.all_eq_true.1 hall q hm;injection h with h;have h':q.2=(op,n):=h;rw[h'] at h2
  simpa using h2
end
section
open Go.RowKit Go.Maps
variable {nm:List (ByteArray × Int)} {fs:List PFn}
theorem pre_take {α:Type} {a b:List α} (h:a <+: b):b.take a.length=a:=by
 obtain⟨t,rfl⟩:=h;simp
end
end Go.Proofs.YtjnpehohialmbaaGreat
