/- The document's own reader of expressions: what it answers. -/
import Derived.Test.YtjnpehohialmbaaGreatZs5
set_option linter.unusedSimpArgs false
set_option linter.unusedVariables false
set_option maxRecDepth 10000
set_option maxHeartbeats 8000000
namespace Go.Proofs.YtjnpehohialmbaaGreat
open Go.RowKit
section
def RNode (w:World) (g len:Nat) (T:List Tk) (wd:Int) (r:PN × PS) (e:Ending) (w':World):Prop :=
 ∃ v p,e = .returned v∧RepN w' (Fr w.heap.size w'.heap.size) p v∧(r.2.e=0→p=r.1)∧Rp w' g len T wd r.2∧Gr g w w'
def RIs (g len:Nat) (T:List Tk) (wd:Int) (lv:Int) (rd:Rdr) (st:PS):Prop :=
 ∀ W,Rp W g len T wd st→Calls Tryz.prog 97 #[.pointer (some ⟨g,0,none⟩),.int .i64 lv] W (RNode W g len T wd (rd st))
variable {w w':World} {g len:Nat} {T:List Tk} {wd:Int} {st:PS}
theorem repZ (w:World) (F:Nat→Prop):RepN w F nodeZ (.agg #[.int .i64 0,.int .i64 0,.string ⟨#[]⟩,.int .i64 0,.slice none 0 0]):=by
 unfold nodeZ;rw[RepN];exact⟨none,0,rfl,Nat.le_refl _,trivial⟩
theorem Rp.set5 (h:Rp w g len T wd st) {b:Nat} (hb:g < b) (k o:Int) (s:ByteArray) (n:Int) (l:Value):Rp (set5 w b k o s n l) g len T wd st:=by
 have hs:(Go.Proofs.YtjnpehohialmbaaGreat.set5 w b k o s n l).heap[g]? = w.heap[g]?:=set5_block (by omega) _ _ _ _ _;obtain⟨V,i,pl,dp,h1,⟨a,cap,rfl,q1,q2,q3⟩,h3⟩:=h.ex;refine⟨⟨_,i,pl,dp,hs.trans h1,⟨a,cap,rfl,q1,q2,?_⟩,h3⟩,h.nv,h.tk,h.tl⟩;rcases q3 with q3 | ⟨b',off,rfl,hb',hc⟩
 ·exact Or.inl q3
 ·refine Or.inr ⟨b',off,rfl,hb',fun j u hu => ?_⟩
  rw[World.cell?_of_block (w:=w) (set5_block (by show b'≠b;omega) _ _ _ _ _)];exact hc j u hu
theorem rnode_end {w2:World} {r:PN × PS} {k o n:Int} {s:ByteArray} {a:Option Addr} {cap:Nat} {l:List PN} (hg:g < w.heap.size) (hs:Rp w2 g len T wd r.2) (hw:Gr g w w2) (hl:l.length≤cap) (hr:RepNL w2 (fun b=>w.heap.size < b∧b < w2.heap.size) l a) (hp:r.2.e=0→(⟨k,o,s,n,l⟩:PN)=r.1) :
  RNode w g len T wd r (.returned (nodV k o s n (.slice a l.length cap))) (set5 w2 w.heap.size k o s n (.slice a l.length cap)):=by
 refine⟨_,⟨k,o,s,n,l⟩,rfl,?_,hp,hs.set5 hg _ _ _ _ _,hw.set5 (Nat.le_refl _) _ _ _ _ _⟩;rw[RepN];refine⟨a,cap,rfl,hl,RepNL.to (fun b hb=>⟨⟨by omega,by rw[set5_size];exact hb.2⟩,set5_block (by omega) _ _ _ _ _⟩) _ _ hr⟩
theorem expr_bad_r (h:Rp w g len T wd st) (h0:st.e≠0) (lv:Int) (rd:Rdr) (hrd:GoodR rd):Calls Tryz.prog 97 #[.pointer (some ⟨g,0,none⟩),.int .i64 lv] w (RNode w g len T wd (rd st)):=by
 have HR:=zh (h.as (hrd st h.nv) h0);have hb:=(hrd st h.nv).bad h0;have HB:Hd ((rd st).2.e≠0):=by rw[Hd,hb.1];exact h0
 have he3:(st.e != 0)=true:=by simp[h0]
 have he2:(st.e == 0)=false:=by simpa using h0
 obtain⟨V,i,pl,dp,h1,-⟩:=h.ex;obtain⟨c0,c1,c2,c3,c4,c5,c6,zf⟩:=rp_c h1;have hg:=h.lt;have XW:Hd (Gr g w (w.alloc (nodO 0 0 ⟨#[]⟩ 0 (.slice none 0 0)))):=Gr.of (Ext.alloc _ _);have HR2:=zh ((zu HR).ext (Ext.alloc _ (nodO 0 0 ⟨#[]⟩ 0 (.slice none 0 0))));clear h1 h h0 hb hrd
 go_enter Tryz.func97,Tryz.ntmps97
 go_wp2
 exact bodyPost_ret (v:=nodV 0 0 ⟨#[]⟩ 0 (.slice none 0 0)) (by simp[results,Tryz.results97,go_sem]) rfl ⟨_,nodeZ,rfl,repZ _ _,fun e=>absurd e (zu HB),zu HR2,zu XW⟩
end
section
variable {w w':World} {g len:Nat} {T:List Tk} {wd:Int} {st:PS}
theorem oper_1 (st:PS):st.oper 1=if st.isS ⟨#[124,124]⟩ then some ⟨⟨#[124,124]⟩,1,13,0⟩ else none:=by
 unfold PS.oper atLv;by_cases hk:(hdT st.ts 0).k=6
 ·rw[if_pos hk]
  have hs:∀ s,st.isS s=(s.toList == (hdT st.ts 0).t.toList):=fun s=>by
   unfold PS.isS isT;rw[hk,BEq.comm (a:=s.toList)];rfl
  simp only[hs,oprs,opHit,List.find?];simp
  repeat' split
  all_goals simp_all
 ·rw[if_neg hk]
  have hs:∀ s,st.isS s=false:=fun s=>by
   unfold PS.isS isT;have:((hdT st.ts 0).k == 6)=false:=by simpa using hk
   rw[this];rfl
  simp[hs]
theorem oper_2 (st:PS):st.oper 2=if st.isS ⟨#[38,38]⟩ then some ⟨⟨#[38,38]⟩,2,12,0⟩ else none:=by
 unfold PS.oper atLv;by_cases hk:(hdT st.ts 0).k=6
 ·rw[if_pos hk]
  have hs:∀ s,st.isS s=(s.toList == (hdT st.ts 0).t.toList):=fun s=>by
   unfold PS.isS isT;rw[hk,BEq.comm (a:=s.toList)];rfl
  simp only[hs,oprs,opHit,List.find?];simp
  repeat' split
  all_goals simp_all
 ·rw[if_neg hk]
  have hs:∀ s,st.isS s=false:=fun s=>by
   unfold PS.isS isT;have:((hdT st.ts 0).k == 6)=false:=by simpa using hk
   rw[this];rfl
  simp[hs]
theorem oper_7 (st:PS):st.oper 7=if st.isS ⟨#[91]⟩ then some ⟨⟨#[91]⟩,7,11,12⟩ else none:=by
 unfold PS.oper atLv;by_cases hk:(hdT st.ts 0).k=6
 ·rw[if_pos hk]
  have hs:∀ s,st.isS s=(s.toList == (hdT st.ts 0).t.toList):=fun s=>by
   unfold PS.isS isT;rw[hk,BEq.comm (a:=s.toList)];rfl
  simp only[hs,oprs,opHit,List.find?];simp
  repeat' split
  all_goals simp_all
 ·rw[if_neg hk]
  have hs:∀ s,st.isS s=false:=fun s=>by
   unfold PS.isS isT;have:((hdT st.ts 0).k == 6)=false:=by simpa using hk
   rw[this];rfl
  simp[hs]
theorem oper_6 (st:PS):st.oper 6=if st.isS ⟨#[45]⟩ then some ⟨⟨#[45]⟩,6,14,15⟩ else if st.isS ⟨#[33]⟩ then some ⟨⟨#[33]⟩,6,14,16⟩ else none:=by
 unfold PS.oper atLv;by_cases hk:(hdT st.ts 0).k=6
 ·rw[if_pos hk]
  have hs:∀ s,st.isS s=(s.toList == (hdT st.ts 0).t.toList):=fun s=>by
   unfold PS.isS isT;rw[hk,BEq.comm (a:=s.toList)];rfl
  simp only[hs,oprs,opHit,List.find?];simp
  repeat' split
  all_goals simp_all
 ·rw[if_neg hk]
  have hs:∀ s,st.isS s=false:=fun s=>by
   unfold PS.isS isT;have:((hdT st.ts 0).k == 6)=false:=by simpa using hk
   rw[this];rfl
  simp[hs]
def sgL (lv:Nat):List ByteArray:=match lv with
 | 3 => [⟨#[61,61]⟩,⟨#[33,61]⟩,⟨#[60]⟩,⟨#[60,61]⟩,⟨#[62]⟩,⟨#[62,61]⟩]
 | 4 => [⟨#[43]⟩,⟨#[45]⟩]
 | 5 => [⟨#[42]⟩,⟨#[47]⟩,⟨#[37]⟩]
 | _ => []
def sgF (lv:Nat):Int:=match lv with
 | 3 => 6
 | 4 => 1
 | 5 => 3
 | _ => 0
def sgFind (st:PS) (lv:Nat):Nat→List ByteArray→Option Opr
 | _,[]=>none
 | j,s :: r=>if st.isS s then some ⟨s,lv,11,sgF lv+j⟩ else sgFind st lv (j+1) r
theorem oper_sg (st:PS) (lv:Nat) (h:lv=3∨lv=4∨lv=5):st.oper lv=sgFind st lv 0 (sgL lv):=by
 unfold PS.oper atLv;by_cases hk:(hdT st.ts 0).k=6
 ·rw[if_pos hk]
  have hs:∀ s,st.isS s=(s.toList == (hdT st.ts 0).t.toList):=fun s=>by
   unfold PS.isS isT;rw[hk,BEq.comm (a:=s.toList)];rfl
  rcases h with rfl | rfl | rfl
  all_goals
   simp only[sgL,sgFind,hs,oprs,opHit,List.find?,sgF];simp
   repeat' split
   all_goals simp_all
 ·rw[if_neg hk]
  have hs:∀ s,st.isS s=false:=fun s=>by
   unfold PS.isS isT;have:((hdT st.ts 0).k == 6)=false:=by simpa using hk
   rw[this];rfl
  rcases h with rfl | rfl | rfl <;> simp[sgL,sgFind,hs]
def opN (o:Option Opr):Int:=match o with
 | some z=>z.o
 | none => 0
end
section
structure RvI (lv:Int) (sb:Rdr) (g len:Nat) (T:List Tk) (wd:Int) (w wr:World) (R:PN × PS) (b3:Nat) (k o:Int) (s:ByteArray) (n:Int) (l:List PN) (a:Option Addr) (cap:Nat) (p1:PN) (stc:PS) (j:Nat):Prop where
 eq:R=loopP lv sb j p1 stc
 np:stc.e=0→(⟨k,o,s,n,l⟩:PN)=p1
 fuel:stc.ts.length < j
 r2:wr.heap[w.heap.size]? = some (nodO 0 0 zE 0 (.slice none 0 0))
 r3:wr.heap[b3]? = some (nodO k o s n (.slice a l.length cap))
 hc:l.length≤cap
 rep:RepNL wr (fun b=>w.heap.size < b∧b < wr.heap.size∧b≠b3) l a
 h3:w.heap.size < b3
 hg:g < w.heap.size
 rs:Rp wr g len T wd stc
 gr:Gr g w wr
theorem takeO_nil {st:PS} (h:st.ts = []) (lv:Int):st.takeO lv=(none,st):=by
 unfold PS.takeO PS.oper;rw[hd_nil h];rfl
theorem takeO_some {st:PS} {lv:Int} {z:Opr} (h:st.oper lv=some z):st.takeO lv=(some z,st.next):=by unfold PS.takeO;rw[h]
theorem takeO_none {st:PS} {lv:Int} (h:st.oper lv=none):st.takeO lv=(none,st):=by unfold PS.takeO;rw[h]
theorem RvI.stop {lv:Int} {sb:Rdr} {g len:Nat} {T:List Tk} {wd:Int} {w wr:World} {R:PN × PS} {b3:Nat} {k o:Int} {s:ByteArray} {n:Int} {l:List PN} {a:Option Addr} {cap:Nat} {p1:PN} {stc:PS} {j:Nat}
  (h:RvI lv sb g len T wd w wr R b3 k o s n l a cap p1 stc j) (ht:stc.takeO lv=(none,stc)):R=(p1,stc):=by
 obtain⟨i,rfl⟩:∃ i,j=i+1:=⟨j - 1,by have:=h.fuel;omega⟩;rw[h.eq,loopP,ht]
theorem RvI.of {lv:Int} {sb:Rdr} {g len:Nat} {T:List Tk} {wd:Int} {w wr W1 w3 w4:World} {R:PN × PS} {b3:Nat} {k o:Int} {s:ByteArray} {n:Int} {l:List PN} {a:Option Addr} {cap:Nat} {p1:PN} {stc:PS} {j:Nat} {k2 o2:Int} {s2:ByteArray} {n2:Int} {l2:List PN} {a2:Option Addr} {cap2:Nat} {t:TypeId} {z:Opr}
  (h:RvI lv sb g len T wd w wr R b3 k o s n l a cap p1 stc j) (h0:stc.e=0) (ht:stc.oper lv=some z) (hsh:Shorter sb) (X1:Gr g wr W1) (X3:Gr g W1 w3) (S3:Rp w3 g len T wd (sb stc.next).2) (hp:(sb stc.next).2.e=0→(⟨k2,o2,s2,n2,l2⟩:PN)=(sb stc.next).1) (hc2:l2.length≤cap2) (L3:RepNL w3 (Fr W1.heap.size w3.heap.size) l2 a2) (X4:Ext w3 w4)
  (RI:w4.heap[w3.heap.size]? = some (.cells #[.int .i64 k,.int .i64 o,.string s,.int .i64 n,.slice a l.length cap,.int .i64 k2,.int .i64 o2,.string s2,.int .i64 n2,.slice a2 l2.length cap2] t (0,0))) :
  RvI lv sb g len T wd w (set5 w4 b3 z.k z.o zE 0 (.slice (some ⟨w3.heap.size,0,none⟩) 2 2)) R b3 z.k z.o zE 0 [⟨k,o,s,n,l⟩,⟨k2,o2,s2,n2,l2⟩] (some ⟨w3.heap.size,0,none⟩) 2 (z.node [p1,(sb stc.next).1]) (sb stc.next).2 (j - 1):=by
 have hg:=h.hg;have h3:=h.h3;have hb3:b3 < wr.heap.size:=(Array.getElem?_eq_some_iff.1 h.r3).1;have hlt:w3.heap.size < w4.heap.size:=(Array.getElem?_eq_some_iff.1 RI).1;have X14:Gr g wr w4:=(X1.trans X3).trans (Gr.of X4);have hs1:=X1.size;have hs3:=X3.size;have hgs:=h.gr.size;have G5:Gr g w (set5 w4 b3 z.k z.o zE 0 (.slice (some ⟨w3.heap.size,0,none⟩) 2 2)):=(h.gr.trans X14).set5 (by omega) _ _ _ _ _;have S5:=(S3.ext X4).set5 (b:=b3) (by omega) z.k z.o zE 0 (.slice (some ⟨w3.heap.size,0,none⟩) 2 2);have Z5:=set5_size w4 b3 z.k z.o zE 0 (.slice (some ⟨w3.heap.size,0,none⟩) 2 2);have B5:∀ x,x≠b3→(set5 w4 b3 z.k z.o zE 0 (.slice (some ⟨w3.heap.size,0,none⟩) 2 2)).heap[x]? = w4.heap[x]?:=fun x hx=>set5_block hx _ _ _ _ _;have R5:=set5_row (X14.row h.r3 (by omega)) z.k z.o zE 0 (.slice (some ⟨w3.heap.size,0,none⟩) 2 2)
 generalize set5 w4 b3 z.k z.o zE 0 (.slice (some ⟨w3.heap.size,0,none⟩) 2 2)=W at *;have hr2:W.heap[w.heap.size]? = some (nodO 0 0 zE 0 (.slice none 0 0)):=(B5 _ (by omega)).trans (X14.row h.r2 (by omega));have hp1:RepNL W (fun b=>w.heap.size < b∧b < W.heap.size∧b≠b3) l a:=RepNL.to (fun b hb=>⟨⟨hb.1,by omega,hb.2.2⟩,(B5 b hb.2.2).trans (X14.block b hb.2.1 (by omega))⟩) _ _ h.rep;have hp2:RepNL W (fun b=>w.heap.size < b∧b < W.heap.size∧b≠b3) l2 a2:=RepNL.to (fun b hb=>by
  have h1:=hb.1;have h2:=hb.2;exact⟨⟨by omega,by omega,by omega⟩,(B5 b (by omega)).trans (X4.block b hb.2)⟩) _ _ L3
 have hpr:=pair_rep (F:=fun b=>w.heap.size < b∧b < W.heap.size∧b≠b3) ((B5 _ (by omega)).trans RI) ⟨by omega,by omega,by omega⟩ h.hc hc2 hp1 hp2;have hfu:=h.fuel;have hn:=oper_ne ht;have hl:=hsh stc.next;obtain⟨i,rfl⟩:∃ i,j=i+1:=⟨j - 1,by omega⟩;refine⟨?_,fun e => ?_,by omega,hr2,R5,Nat.le_refl _,hpr,h3,hg,S5,G5⟩
 ·rw[h.eq,loopP,takeO_some ht];rfl
 ·rw[h.np h0,hp e];rfl
theorem RvI.ext {lv:Int} {sb:Rdr} {g len:Nat} {T:List Tk} {wd:Int} {w wr w1:World} {R:PN × PS} {b3:Nat} {k o:Int} {s:ByteArray} {n:Int} {l:List PN} {a:Option Addr} {cap:Nat} {p1:PN} {stc:PS} {j:Nat}
  (h:RvI lv sb g len T wd w wr R b3 k o s n l a cap p1 stc j) (x:Ext wr w1):RvI lv sb g len T wd w w1 R b3 k o s n l a cap p1 stc j :=
 ⟨h.eq,h.np,h.fuel,x.row h.r2,x.row h.r3,h.hc,RepNL.to (fun b hb=>⟨⟨hb.1,Nat.lt_of_lt_of_le hb.2.1 x.size,hb.2.2⟩,x.block b hb.2.1⟩) _ _ h.rep,h.h3,h.hg,h.rs.ext x,h.gr.trans (Gr.of x)⟩
theorem sgFind_some {st:PS} {lv:Nat}:∀ (l:List ByteArray) (j:Nat) (z:Opr),sgFind st lv j l=some z→z.k=11∧sgF lv+j≤z.o∧z.o < sgF lv+j+l.length
 | [],j,z,h=>by cases h
 | s :: r,j,z,h=>by
  rw[sgFind] at h
  split at h
  ·injection h with h
   subst h;refine⟨rfl,Int.le_refl _,?_⟩;simp only[List.length_cons];omega
  ·obtain⟨h1,h2,h3⟩:=sgFind_some r (j+1) z h
   refine⟨h1,by omega,?_⟩;simp only[List.length_cons];omega
theorem sg_some {st:PS} (lv:Nat) (hlv:lv=3∨lv=4∨lv=5) {z:Opr} (h:st.oper lv=some z):z.k=11∧1≤z.o∧z.o≤20:=by
 rw[oper_sg st lv hlv] at h;obtain⟨h1,h2,h3⟩:=sgFind_some _ _ _ h;refine⟨h1,?_⟩;rcases hlv with rfl | rfl | rfl <;> simp[sgF,sgL] at h2 h3 <;> omega
theorem enterRExpr (v v':Value) (w:World):(callFunc 97 #[v,v']).run Tryz.prog w = .ok (.enter 97 #[v,v']) w:=by kernel_rfl
theorem set_alloc {w:World} {b:Nat} (hb:b < w.heap.size) (i:Nat) (v:Value) (o:Obj):(w.setCell ⟨b,i,none⟩ v).alloc o=(w.alloc o).setCell ⟨b,i,none⟩ v:=by
 unfold World.setCell World.alloc;simp only
 congr 1
 apply Array.ext_getElem?;intro k;rw[Array.getElem?_modify,Array.getElem?_push,Array.getElem?_push,Array.getElem?_modify,Array.size_modify];by_cases h1:b=k
 ·subst h1
  simp[hb,Nat.ne_of_lt hb]
 ·simp[h1]
theorem set5_alloc {w:World} {b:Nat} (hb:b < w.heap.size) (k o:Int) (s:ByteArray) (n:Int) (l:Value) (ob:Obj):(set5 w b k o s n l).alloc ob=set5 (w.alloc ob) b k o s n l:=by
 unfold set5;have hs:∀ (W:World) (p:Addr) (v:Value),(W.setCell p v).heap.size=W.heap.size:=fun W p v=>by simp[World.setCell]
 rw[set_alloc (by simp only[hs];exact hb),set_alloc (by simp only[hs];exact hb),set_alloc (by simp only[hs];exact hb),set_alloc (by simp only[hs];exact hb),set_alloc hb]
def rleft (g N:Nat) (w:World):Nat:=match w.cell? ⟨g,2,none⟩,w.cell? ⟨g,1,none⟩ with
 | some (.int _ e),some (.int _ i)=>if e=0 then 1+(N - i.toNat) else 0
 | _,_ => 0
theorem rleft_eq {w:World} {g len:Nat} {T:List Tk} {wd:Int} {st:PS} (h:Rp w g len T wd st):rleft g T.length w=if st.e=0 then 1+st.ts.length else 0:=by
 obtain⟨V,i,pl,dp,h1,h2,h3,h4,h5⟩:=h.ex;obtain⟨c0,c1,c2,c3,c4,c5,c6,zf⟩:=rp_c h1;unfold rleft;rw[c1,c2];simp only;by_cases h0:st.e=0
 ·rw[if_pos h0,if_pos h0,← (h4 h0).1,List.length_drop]
  rfl
 ·rw[if_neg h0,if_neg h0]
end
section
variable {w w':World} {g len:Nat} {T:List Tk} {wd:Int} {st:PS}
theorem lev1_r (f:Nat) (sb:Rdr) (hgs:GoodR sb) (hss:Shorter sb) (hf:st.ts.length < f) (hsub:∀ s:PS,s.ts.length≤st.ts.length→RIs g len T wd 2 sb s) (h:Rp w g len T wd st):Calls Tryz.prog 97 #[.pointer (some ⟨g,0,none⟩),.int .i64 1] w (RNode w g len T wd (levP 1 sb f st)):=by
 by_cases h0:st.e=0
 case neg=>exact expr_bad_r h h0 1 (levP 1 sb f) (lev_kp hgs f)
 have hg:=h.lt;have hl0:=hss st;have HSH:=zh hss;have HS0:=zh (hsub st (Nat.le_refl _));have HS:=zh hsub;unfold levP;obtain⟨R,hRR⟩:∃ R,R=loopP 1 sb f (sb st).1 (sb st).2:=⟨_,rfl⟩;rw[← hRR];have HRR:=zh hRR;obtain⟨V,i,pl,dp,h1,-⟩:=h.ex;rw[h0] at h1;obtain⟨c0,c1,c2,c3,c4,c5,c6,zf⟩:=rp_c h1;have H:=zh h;unfold RIs at HS0;clear h1 h h0 hsub hss hRR
 go_enter Tryz.func97,Tryz.ntmps97
 go_wp2_with (go_at_call 97;refine Calls.mono (zu HS0 _ ((zu H).ext (Ext.alloc _ _))) ?_;rintro e w2 ⟨v,p,rfl,hr,hp,hs,hw⟩;obtain⟨pk,po,ps,pn,pl2⟩:=p;rw[RepN] at hr;obtain⟨a,cap,rfl,hcap,hl⟩:=hr;have S2:=zh hs;have L2:=zh hl;have P2:=zh hp;have X2:=zh hw;clear hw hs hl hp)
 have LI:Hd (RvI 1 sb g len T wd w (w2.alloc (nodO pk po ps pn (.slice a pl2.length cap))) R w2.heap.size pk po ps pn pl2 a cap (sb st).1 (sb st).2 f):=by
  have RB:=(zu X2).row (Go.heap_alloc_new w (nodO 0 0 zE 0 (.slice none 0 0))) (by omega);have hlt1:w.heap.size < w2.heap.size:=(Array.getElem?_eq_some_iff.1 RB).1;refine⟨zu HRR,zu P2,by omega,(Ext.alloc _ _).row RB,Go.heap_alloc_new w2 _,hcap,?_,hlt1,hg,(zu S2).ext (Ext.alloc _ _),((Gr.of (Ext.alloc _ _)).trans (zu X2)).alloc _⟩;refine RepNL.to (fun b hb=>⟨⟨?fa,?fb,?fc⟩,?fe⟩) _ _ (zu L2)
  case fa=>have:=hb.1;rw[size_alloc] at this;omega
  case fb=>have:=hb.2;rw[size_alloc];omega
  case fc=>have:=hb.2;omega
  case fe=>exact(Ext.alloc w2 _).block b (by have:=hb.2;omega)
 have hl00:(sb st).2.ts.length≤st.ts.length:=hl0;generalize w2.heap.size=b3 at LI ⊢;refine gen_world (F:=fun W=>Code.wp _ _ _ _ W) ?_;intro WA hWA;rw[← hWA] at LI;clear hWA S2 L2 P2 X2 HRR hl0 hcap c0 c1 c2 c3 c4 c5 c6 zf HS0 H
 go_loopw [8] (fun t8 wr => ∃ (k o:Int) (s:ByteArray) (n:Int) (l:List PN) (a:Option Addr) (cap:Nat) (pp:PN) (stc:PS) (j:Nat),Hd (RvI 1 sb g len T wd w wr R b3 k o s n l a cap pp stc j)∧stc.ts.length≤st.ts.length) (fun _ wr=>rleft g T.length wr)
 case atStart=>exact⟨_,_,_,_,_,_,_,_,_,_,LI,hl00⟩
 case round =>
  clear LI;obtain⟨k,o,s,n,l,a,cap,pp,stc,j,hI,hle⟩:=hrel;have hJ:=zu hI;have p0:=zr hJ.r3 0 rfl;have p1:=zr hJ.r3 1 rfl;have p2:=zr hJ.r3 2 rfl;have p3:=zr hJ.r3 3 rfl;have p4:=zr hJ.r3 4 rfl;have pz:=rowF hJ.r3;have h3:=hJ.h3;have hb3:b3 < wr.heap.size:=(Array.getElem?_eq_some_iff.1 hJ.r3).1;obtain⟨V,i,pl,dp,hrow,-⟩:=hJ.rs.ex;have HRow:=zh hrow;by_cases h0:stc.e=0
  ·rw[h0] at hrow
   obtain⟨c0,c1,c2,c3,c4,c5,c6,zf⟩:=rp_c hrow;have HIs:Hd (Calls Tryz.prog 63 #[.pointer (some ⟨g,0,none⟩),.string ⟨#[124,124]⟩] wr fun e w'=>e = .returned (.bool (stc.isS ⟨#[124,124]⟩))∧Ext wr w'):=by
    have:=is_r hJ.rs h0 ⟨#[124,124]⟩;rw[isA_S hJ.rs h0 (by decide +kernel)] at this;exact this
   clear hJ hrow;cases hb:stc.isS ⟨#[124,124]⟩
   ·rw[hb] at HIs
    have hto:stc.takeO 1=(none,stc):=takeO_none (by rw[oper_1,hb];rfl);have hRs:R=(pp,stc):=(zu hI).stop (hto);clear hb
    go_wp2_with (go_at_call 63;refine Calls.mono (zu HIs) ?_;rintro e w1 ⟨rfl,hw⟩;have I1:=zh ((zu hI).ext hw);have p0:=zr (zu I1).r3 0 rfl;have p1:=zr (zu I1).r3 1 rfl;have p2:=zr (zu I1).r3 2 rfl;have p3:=zr (zu I1).r3 3 rfl;have p4:=zr (zu I1).r3 4 rfl;have pz:=rowF (zu I1).r3;have r0:=zr (zu I1).r2 0 rfl;have r1:=zr (zu I1).r2 1 rfl;have r2:=zr (zu I1).r2 2 rfl;have r3:=zr (zu I1).r2 3 rfl;have r4:=zr (zu I1).r2 4 rfl;have rz:=rowF (zu I1).r2;clear hw)
    rw[hRs];exact bodyPost_ret (v:=nodV k o s n (.slice a l.length cap)) (by simp[results,Tryz.results97,go_sem,r0,r1,r2,r3,r4]) rfl (rnode_end (r:=(pp,stc)) hg (zu I1).rs (zu I1).gr (zu I1).hc (RepNL.to (fun b hb=>⟨⟨hb.1,hb.2.1⟩,rfl⟩) _ _ (zu I1).rep) (k:=k) (o:=o) (n:=n) (s:=s) (fun e=>(zu hI).np e))
   ·rw[hb] at HIs
    have hop:stc.oper 1=some (⟨⟨#[124,124]⟩,1,13,0⟩:Opr):=by rw[oper_1,hb];rfl
    have hlt:=oper_ne hop;obtain⟨i2,ci,hi2,hstep⟩:=(zu hI).rs.step h0 (by intro e;rw[e] at hlt;exact absurd hlt (Nat.not_lt_zero _));obtain rfl:i=i2:=by
     rw[c1] at ci;injection ci with ci;injection ci with _ ci;omega
    have HStep:=zh hstep;have HOp:=zh hop;clear hstep hb ci hop
    go_wp2_with (go_at_call 63;refine Calls.mono (zu HIs) ?_;rintro e w1 ⟨rfl,hw⟩;have X1:=zh hw;have c1:=hw.cell c1;have zf:=rowF (hw.row (zu HRow));have p0:=zr (hw.row (zu hI).r3) 0 rfl;have p1:=zr (hw.row (zu hI).r3) 1 rfl;have p2:=zr (hw.row (zu hI).r3) 2 rfl;have p3:=zr (hw.row (zu hI).r3) 3 rfl;have p4:=zr (hw.row (zu hI).r3) 4 rfl;have pz:=rowF (hw.row (zu hI).r3);clear hw)
    obtain⟨W1,hW1⟩:∃ W1,W1=w1.setCell ⟨g,1,none⟩ (.int .i64 ((i:Int)+1)):=⟨_,rfl⟩;rw[← hW1];have hsz1:W1.heap.size=w1.heap.size:=by rw[hW1];simp[World.setCell]
    have hS1:Rp W1 g len T wd stc.next:=by rw[hW1];exact zu HStep w1 (Gr.of (zu X1)) ((zu X1).block g (by omega))
    have hG1:Gr g wr W1:=by rw[hW1];exact(Gr.of (zu X1)).set (p:=⟨g,_,none⟩) (Or.inr rfl) _
    have R3:=zh (hG1.row (zu hI).r3 (by omega));have S1:=zh hS1;have G1:=zh hG1;clear p0 p1 p2 p3 p4 pz hW1 hS1 hG1 c1 zf;have p0:=zr (zu R3) 0 rfl;have p1:=zr (zu R3) 1 rfl;have p2:=zr (zu R3) 2 rfl;have p3:=zr (zu R3) 3 rfl;have p4:=zr (zu R3) 4 rfl;have pz:=rowF (zu R3);have D1:Hd (Rp W1.drew g len T wd stc.next):=(zu S1).ext (Ext.drew (Ext.refl _));have hbW:b3 < W1.heap.size:=(Array.getElem?_eq_some_iff.1 (zu R3)).1;have HXs:=zh (zu HS stc.next (by have:=next_le stc;omega));unfold RIs at HXs
    go_wp2_with fail
    go_region_law (first
     | (refine step_call_two rfl 97 (.tmp 98) (.tmp 100) 65 3 rfl _ _ (by simp[Act.eval,Act.put]) (by first | (simp[Act.eval,Act.put];done) | (simp[Act.eval,Act.put];rfl)) (enterRExpr _ _ _) (Calls.mono (zu HXs _ (zu D1)) ?_);rintro e w3 ⟨v,p2,rfl,hr,hp,hs,hw⟩;obtain⟨k2,o2,s2,n2,l2⟩:=p2;rw[RepN] at hr;obtain⟨a2,cap2,rfl,hcap2,hl3⟩:=hr;have RE:=zh (hw.row (zu R3) (by omega));have p0:=zr (zu RE) 0 rfl;have p1:=zr (zu RE) 1 rfl;have p2:=zr (zu RE) 2 rfl;have p3:=zr (zu RE) 3 rfl;have p4:=zr (zu RE) 4 rfl;have pz:=rowF (zu RE);have S3:=zh hs;have P3:=zh hp;have L3:=zh hl3;have X3:=zh hw;have hb43:b3 < w3.heap.size:=Nat.lt_of_lt_of_le hbW hw.size;clear hw hs hl3 hp;refine⟨_,rfl,?_⟩))
    all_goals
     have LM:=RvI.of (zu hI) h0 (zu HOp) (zu HSH) (zu G1) (Gr.drew_of (zu X3)) (zu S3) (zu P3) hcap2 (zu L3) (Ext.alloc w3 _) (Go.heap_alloc_new w3 (.cells #[.int .i64 k,.int .i64 o,.string s,.int .i64 n,.slice a l.length cap,.int .i64 k2,.int .i64 o2,.string s2,.int .i64 n2,.slice a2 l2.length cap2] 46))
     skip
     refine gen_world (F:=fun W5=>Exit.then _ _ Exit.normal _ W5) ?_;intro W5 hW5;replace hW5:W5=set5 (w3.alloc (.cells #[.int .i64 k,.int .i64 o,.string s,.int .i64 n,.slice a l.length cap,.int .i64 k2,.int .i64 o2,.string s2,.int .i64 n2,.slice a2 l2.length cap2] 46)) b3 13 0 zE 0 (.slice (some ⟨w3.heap.size,0,none⟩) 2 2):=hW5.trans (set5_alloc hb43 _ _ _ _ _ _);rw[← hW5] at LM;have M:=zh LM;have hm0:=rleft_eq (zu hI).rs;have hm1:=rleft_eq LM.rs;have hl2:=zu HSH stc.next;clear LM hW5 S3 L3 X3 P3 RE R3 S1 G1 D1
     go_wp2_with fail
     go_roundw
     case rel=>exact⟨_,_,_,_,_,_,_,_,_,_,M,by have:=next_le stc;omega⟩
     case measure =>
      rw[hm0,hm1,if_pos h0]
      split <;> omega
  ·have he2:(stc.e == 0)=false:=by simpa using h0
   obtain⟨c0,c1,c2,c3,c4,c5,c6,zf⟩:=rp_c hrow;have hto:stc.takeO 1=(none,stc):=takeO_nil (hJ.rs.nv.nil h0) _;have HE0:=zh h0;have hRs:R=(pp,stc):=(zu hI).stop (hto);have r0:=zr hJ.r2 0 rfl;have r1:=zr hJ.r2 1 rfl;have r2:=zr hJ.r2 2 rfl;have r3:=zr hJ.r2 3 rfl;have r4:=zr hJ.r2 4 rfl;have rz:=rowF hJ.r2;clear hJ hrow h0 hto
   go_wp2_with fail
   rw[hRs];exact bodyPost_ret (v:=nodV k o s n (.slice a l.length cap)) (by simp[results,Tryz.results97,go_sem,r0,r1,r2,r3,r4]) rfl (rnode_end (r:=(pp,stc)) hg (zu hI).rs (zu hI).gr (zu hI).hc (RepNL.to (fun b hb=>⟨⟨hb.1,hb.2.1⟩,rfl⟩) _ _ (zu hI).rep) (k:=k) (o:=o) (n:=n) (s:=s) (fun e=>absurd e (zu HE0)))
end
section
variable {w w':World} {g len:Nat} {T:List Tk} {wd:Int} {st:PS}
theorem lev2_r (f:Nat) (sb:Rdr) (hgs:GoodR sb) (hss:Shorter sb) (hf:st.ts.length < f) (hsub:∀ s:PS,s.ts.length≤st.ts.length→RIs g len T wd 3 sb s) (h:Rp w g len T wd st):Calls Tryz.prog 97 #[.pointer (some ⟨g,0,none⟩),.int .i64 2] w (RNode w g len T wd (levP 2 sb f st)):=by
 by_cases h0:st.e=0
 case neg=>exact expr_bad_r h h0 2 (levP 2 sb f) (lev_kp hgs f)
 have hg:=h.lt;have hl0:=hss st;have HSH:=zh hss;have HS0:=zh (hsub st (Nat.le_refl _));have HS:=zh hsub;unfold levP;obtain⟨R,hRR⟩:∃ R,R=loopP 2 sb f (sb st).1 (sb st).2:=⟨_,rfl⟩;rw[← hRR];have HRR:=zh hRR;obtain⟨V,i,pl,dp,h1,-⟩:=h.ex;rw[h0] at h1;obtain⟨c0,c1,c2,c3,c4,c5,c6,zf⟩:=rp_c h1;have H:=zh h;unfold RIs at HS0;clear h1 h h0 hsub hss hRR
 go_enter Tryz.func97,Tryz.ntmps97
 go_wp2_with (go_at_call 97;refine Calls.mono (zu HS0 _ ((zu H).ext (Ext.alloc _ _))) ?_;rintro e w2 ⟨v,p,rfl,hr,hp,hs,hw⟩;obtain⟨pk,po,ps,pn,pl2⟩:=p;rw[RepN] at hr;obtain⟨a,cap,rfl,hcap,hl⟩:=hr;have S2:=zh hs;have L2:=zh hl;have P2:=zh hp;have X2:=zh hw;clear hw hs hl hp)
 have LI:Hd (RvI 2 sb g len T wd w (w2.alloc (nodO pk po ps pn (.slice a pl2.length cap))) R w2.heap.size pk po ps pn pl2 a cap (sb st).1 (sb st).2 f):=by
  have RB:=(zu X2).row (Go.heap_alloc_new w (nodO 0 0 zE 0 (.slice none 0 0))) (by omega);have hlt1:w.heap.size < w2.heap.size:=(Array.getElem?_eq_some_iff.1 RB).1;refine⟨zu HRR,zu P2,by omega,(Ext.alloc _ _).row RB,Go.heap_alloc_new w2 _,hcap,?_,hlt1,hg,(zu S2).ext (Ext.alloc _ _),((Gr.of (Ext.alloc _ _)).trans (zu X2)).alloc _⟩;refine RepNL.to (fun b hb=>⟨⟨?fa,?fb,?fc⟩,?fe⟩) _ _ (zu L2)
  case fa=>have:=hb.1;rw[size_alloc] at this;omega
  case fb=>have:=hb.2;rw[size_alloc];omega
  case fc=>have:=hb.2;omega
  case fe=>exact(Ext.alloc w2 _).block b (by have:=hb.2;omega)
 have hl00:(sb st).2.ts.length≤st.ts.length:=hl0;generalize w2.heap.size=b3 at LI ⊢;refine gen_world (F:=fun W=>Code.wp _ _ _ _ W) ?_;intro WA hWA;rw[← hWA] at LI;clear hWA S2 L2 P2 X2 HRR hl0 hcap c0 c1 c2 c3 c4 c5 c6 zf HS0 H
 go_loopw [8] (fun t8 wr => ∃ (k o:Int) (s:ByteArray) (n:Int) (l:List PN) (a:Option Addr) (cap:Nat) (pp:PN) (stc:PS) (j:Nat),Hd (RvI 2 sb g len T wd w wr R b3 k o s n l a cap pp stc j)∧stc.ts.length≤st.ts.length) (fun _ wr=>rleft g T.length wr)
 case atStart=>exact⟨_,_,_,_,_,_,_,_,_,_,LI,hl00⟩
 case round =>
  clear LI;obtain⟨k,o,s,n,l,a,cap,pp,stc,j,hI,hle⟩:=hrel;have hJ:=zu hI;have p0:=zr hJ.r3 0 rfl;have p1:=zr hJ.r3 1 rfl;have p2:=zr hJ.r3 2 rfl;have p3:=zr hJ.r3 3 rfl;have p4:=zr hJ.r3 4 rfl;have pz:=rowF hJ.r3;have h3:=hJ.h3;have hb3:b3 < wr.heap.size:=(Array.getElem?_eq_some_iff.1 hJ.r3).1;obtain⟨V,i,pl,dp,hrow,-⟩:=hJ.rs.ex;have HRow:=zh hrow;by_cases h0:stc.e=0
  ·rw[h0] at hrow
   obtain⟨c0,c1,c2,c3,c4,c5,c6,zf⟩:=rp_c hrow;have HIs:Hd (Calls Tryz.prog 63 #[.pointer (some ⟨g,0,none⟩),.string ⟨#[38,38]⟩] wr fun e w'=>e = .returned (.bool (stc.isS ⟨#[38,38]⟩))∧Ext wr w'):=by
    have:=is_r hJ.rs h0 ⟨#[38,38]⟩;rw[isA_S hJ.rs h0 (by decide +kernel)] at this;exact this
   clear hJ hrow;cases hb:stc.isS ⟨#[38,38]⟩
   ·rw[hb] at HIs
    have hto:stc.takeO 2=(none,stc):=takeO_none (by rw[oper_2,hb];rfl);have hRs:R=(pp,stc):=(zu hI).stop (hto);clear hb
    go_wp2_with (go_at_call 63;refine Calls.mono (zu HIs) ?_;rintro e w1 ⟨rfl,hw⟩;have I1:=zh ((zu hI).ext hw);have p0:=zr (zu I1).r3 0 rfl;have p1:=zr (zu I1).r3 1 rfl;have p2:=zr (zu I1).r3 2 rfl;have p3:=zr (zu I1).r3 3 rfl;have p4:=zr (zu I1).r3 4 rfl;have pz:=rowF (zu I1).r3;have r0:=zr (zu I1).r2 0 rfl;have r1:=zr (zu I1).r2 1 rfl;have r2:=zr (zu I1).r2 2 rfl;have r3:=zr (zu I1).r2 3 rfl;have r4:=zr (zu I1).r2 4 rfl;have rz:=rowF (zu I1).r2;clear hw)
    rw[hRs];exact bodyPost_ret (v:=nodV k o s n (.slice a l.length cap)) (by simp[results,Tryz.results97,go_sem,r0,r1,r2,r3,r4]) rfl (rnode_end (r:=(pp,stc)) hg (zu I1).rs (zu I1).gr (zu I1).hc (RepNL.to (fun b hb=>⟨⟨hb.1,hb.2.1⟩,rfl⟩) _ _ (zu I1).rep) (k:=k) (o:=o) (n:=n) (s:=s) (fun e=>(zu hI).np e))
   ·rw[hb] at HIs
    have hop:stc.oper 2=some (⟨⟨#[38,38]⟩,2,12,0⟩:Opr):=by rw[oper_2,hb];rfl
    have hlt:=oper_ne hop;obtain⟨i2,ci,hi2,hstep⟩:=(zu hI).rs.step h0 (by intro e;rw[e] at hlt;exact absurd hlt (Nat.not_lt_zero _));obtain rfl:i=i2:=by
     rw[c1] at ci;injection ci with ci;injection ci with _ ci;omega
    have HStep:=zh hstep;have HOp:=zh hop;clear hstep hb ci hop
    go_wp2_with (go_at_call 63;refine Calls.mono (zu HIs) ?_;rintro e w1 ⟨rfl,hw⟩;have X1:=zh hw;have c1:=hw.cell c1;have zf:=rowF (hw.row (zu HRow));have p0:=zr (hw.row (zu hI).r3) 0 rfl;have p1:=zr (hw.row (zu hI).r3) 1 rfl;have p2:=zr (hw.row (zu hI).r3) 2 rfl;have p3:=zr (hw.row (zu hI).r3) 3 rfl;have p4:=zr (hw.row (zu hI).r3) 4 rfl;have pz:=rowF (hw.row (zu hI).r3);clear hw)
    obtain⟨W1,hW1⟩:∃ W1,W1=w1.setCell ⟨g,1,none⟩ (.int .i64 ((i:Int)+1)):=⟨_,rfl⟩;rw[← hW1];have hsz1:W1.heap.size=w1.heap.size:=by rw[hW1];simp[World.setCell]
    have hS1:Rp W1 g len T wd stc.next:=by rw[hW1];exact zu HStep w1 (Gr.of (zu X1)) ((zu X1).block g (by omega))
    have hG1:Gr g wr W1:=by rw[hW1];exact(Gr.of (zu X1)).set (p:=⟨g,_,none⟩) (Or.inr rfl) _
    have R3:=zh (hG1.row (zu hI).r3 (by omega));have S1:=zh hS1;have G1:=zh hG1;clear p0 p1 p2 p3 p4 pz hW1 hS1 hG1 c1 zf;have p0:=zr (zu R3) 0 rfl;have p1:=zr (zu R3) 1 rfl;have p2:=zr (zu R3) 2 rfl;have p3:=zr (zu R3) 3 rfl;have p4:=zr (zu R3) 4 rfl;have pz:=rowF (zu R3);have D1:Hd (Rp W1.drew g len T wd stc.next):=(zu S1).ext (Ext.drew (Ext.refl _));have hbW:b3 < W1.heap.size:=(Array.getElem?_eq_some_iff.1 (zu R3)).1;have HXs:=zh (zu HS stc.next (by have:=next_le stc;omega));unfold RIs at HXs
    go_wp2_with fail
    go_region_law (first
     | (refine step_call_two rfl 97 (.tmp 98) (.tmp 100) 65 3 rfl _ _ (by simp[Act.eval,Act.put]) (by first | (simp[Act.eval,Act.put];done) | (simp[Act.eval,Act.put];rfl)) (enterRExpr _ _ _) (Calls.mono (zu HXs _ (zu D1)) ?_);rintro e w3 ⟨v,p2,rfl,hr,hp,hs,hw⟩;obtain⟨k2,o2,s2,n2,l2⟩:=p2;rw[RepN] at hr;obtain⟨a2,cap2,rfl,hcap2,hl3⟩:=hr;have RE:=zh (hw.row (zu R3) (by omega));have p0:=zr (zu RE) 0 rfl;have p1:=zr (zu RE) 1 rfl;have p2:=zr (zu RE) 2 rfl;have p3:=zr (zu RE) 3 rfl;have p4:=zr (zu RE) 4 rfl;have pz:=rowF (zu RE);have S3:=zh hs;have P3:=zh hp;have L3:=zh hl3;have X3:=zh hw;have hb43:b3 < w3.heap.size:=Nat.lt_of_lt_of_le hbW hw.size;clear hw hs hl3 hp;refine⟨_,rfl,?_⟩))
    all_goals
     have LM:=RvI.of (zu hI) h0 (zu HOp) (zu HSH) (zu G1) (Gr.drew_of (zu X3)) (zu S3) (zu P3) hcap2 (zu L3) (Ext.alloc w3 _) (Go.heap_alloc_new w3 (.cells #[.int .i64 k,.int .i64 o,.string s,.int .i64 n,.slice a l.length cap,.int .i64 k2,.int .i64 o2,.string s2,.int .i64 n2,.slice a2 l2.length cap2] 46))
     skip
     refine gen_world (F:=fun W5=>Exit.then _ _ Exit.normal _ W5) ?_;intro W5 hW5;replace hW5:W5=set5 (w3.alloc (.cells #[.int .i64 k,.int .i64 o,.string s,.int .i64 n,.slice a l.length cap,.int .i64 k2,.int .i64 o2,.string s2,.int .i64 n2,.slice a2 l2.length cap2] 46)) b3 12 0 zE 0 (.slice (some ⟨w3.heap.size,0,none⟩) 2 2):=hW5.trans (set5_alloc hb43 _ _ _ _ _ _);rw[← hW5] at LM;have M:=zh LM;have hm0:=rleft_eq (zu hI).rs;have hm1:=rleft_eq LM.rs;have hl2:=zu HSH stc.next;clear LM hW5 S3 L3 X3 P3 RE R3 S1 G1 D1
     go_wp2_with fail
     go_roundw
     case rel=>exact⟨_,_,_,_,_,_,_,_,_,_,M,by have:=next_le stc;omega⟩
     case measure =>
      rw[hm0,hm1,if_pos h0]
      split <;> omega
  ·have he2:(stc.e == 0)=false:=by simpa using h0
   obtain⟨c0,c1,c2,c3,c4,c5,c6,zf⟩:=rp_c hrow;have hto:stc.takeO 2=(none,stc):=takeO_nil (hJ.rs.nv.nil h0) _;have HE0:=zh h0;have hRs:R=(pp,stc):=(zu hI).stop (hto);have r0:=zr hJ.r2 0 rfl;have r1:=zr hJ.r2 1 rfl;have r2:=zr hJ.r2 2 rfl;have r3:=zr hJ.r2 3 rfl;have r4:=zr hJ.r2 4 rfl;have rz:=rowF hJ.r2;clear hJ hrow h0 hto
   go_wp2_with fail
   rw[hRs];exact bodyPost_ret (v:=nodV k o s n (.slice a l.length cap)) (by simp[results,Tryz.results97,go_sem,r0,r1,r2,r3,r4]) rfl (rnode_end (r:=(pp,stc)) hg (zu hI).rs (zu hI).gr (zu hI).hc (RepNL.to (fun b hb=>⟨⟨hb.1,hb.2.1⟩,rfl⟩) _ _ (zu hI).rep) (k:=k) (o:=o) (n:=n) (s:=s) (fun e=>absurd e (zu HE0)))
end
end Go.Proofs.YtjnpehohialmbaaGreat
