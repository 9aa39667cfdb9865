/- A reader at a text's begin;too many functions or parameters;all functions of a text. -/
import Derived.Test.YtjnpehohialmbaaGreatZs19
set_option linter.unusedSimpArgs false
set_option linter.unusedVariables false
set_option maxRecDepth 10000
set_option maxHeartbeats 8000000
namespace Go.Proofs.YtjnpehohialmbaaGreat
open Go.RowKit
section
theorem lexF_len:∀ (f:Nat) (s:ByteArray) (o:Nat),(lexF f s o).1.length≤f
 | 0,s,o=>by simp[lexF]
 | f+1,s,o=>by
  rw[lexF]
  split
  ·simp
  ·split
   ·simp
   ·have:=lexF_len f s
    simp only[List.length_cons];rename_i m _;have h:=this m;omega
def begP (s:ByteArray):PS:=if 4000 < s.size then ⟨[],0,0,2⟩ else match (lexF (s.size+1) s 0).2 with
 | some b=>⟨[],0,(b:Nat),10⟩
 | none=>⟨(lexF (s.size+1) s 0).1,0,0,0⟩
theorem begP_len (s:ByteArray):(begP s).ts.length < 4002:=by
 unfold begP
 split
 ·simp
 ·have:=lexF_len (s.size+1) s 0
  split
  ·simp
  ·show (lexF (s.size+1) s 0).1.length < 4002
   omega
theorem begP_long {s:ByteArray} (h:4000 < s.size):begP s=⟨[],0,0,2⟩:=by unfold begP;rw[if_pos h]
theorem begP_bad {s:ByteArray} (h:s.size≤4000) {b:Nat} (hb:(lexF (s.size+1) s 0).2=some b):begP s=⟨[],0,(b:Nat),10⟩:=by unfold begP;rw[if_neg (by omega),hb]
theorem begP_good {s:ByteArray} (h:s.size≤4000) (hb:(lexF (s.size+1) s 0).2=none):begP s=⟨(lexF (s.size+1) s 0).1,0,0,0⟩:=by unfold begP;rw[if_neg (by omega),hb]
def tooP (fs:List PFn):Bool:=decide (16 < fs.length) || fs.any (fun p=>decide (8 < p.ps.length))
def rdP (s:ByteArray) (f:Nat):List PFn × PS:=funsP s.size (stsP s.size f f).2.1 f f [] (begP s)
end
section
def InW (w:World):Nat→Prop:=fun b=>b < w.heap.size
theorem repNL_at {w:World} {F:Nat→Prop}:∀ {l:List PN} {a:Option Addr},RepNL w F l a→∀ (i:Nat) (p:PN),l[i]? = some p→∃ b off c0 c1 c2 c3 c4,a=some ⟨b,off,none⟩∧F b∧RepN w F p (.agg #[c0,c1,c2,c3,c4]) ∧
   w.cell? ⟨b,off+i * 5,none⟩=some c0∧w.cell? ⟨b,off+i * 5+1,none⟩=some c1∧w.cell? ⟨b,off+i * 5+2,none⟩=some c2∧w.cell? ⟨b,off+i * 5+3,none⟩=some c3∧w.cell? ⟨b,off+i * 5+4,none⟩=some c4:=by
 intro l
 induction l with
 | nil=>intro a _ i p h;simp at h
 | cons x xs ih =>
  intro a h i p hp;rw[RepNL] at h;obtain⟨b,off,c0,c1,c2,c3,c4,rfl,hf,hr,h0,h1,h2,h3,h4,hrest⟩:=h;cases i with
  | zero =>
   simp at hp;subst hp;refine⟨b,off,c0,c1,c2,c3,c4,rfl,hf,hr,?_⟩;rw[Nat.zero_mul,Nat.add_zero];exact⟨h0,h1,h2,h3,h4⟩
  | succ j =>
   simp at hp;obtain⟨b',off',d0,d1,d2,d3,d4,he,r⟩:=ih hrest j p hp;injection he with he;injection he with e1 e2;subst e1 e2;refine⟨b,off,d0,d1,d2,d3,d4,rfl,?_⟩;rw[show off+(j+1) * 5=off+5+j * 5 by omega];exact r
theorem rowF_at {w:World} {F:Nat→Prop}:∀ {ps:List PFn} {xs:List Value},RowF w F ps xs→∀ (i:Nat) (p:PFn),ps[i]? = some p →
  ∃ pa pc a cap,(∀ (r:Nat) u,(fnC p pa pc a cap)[r]? = some u→xs[i * 7+r]? = some u)∧p.ps.length≤pc∧RepS w F p.ps pa∧p.bd.l.length≤cap∧RepNL w F p.bd.l a:=by
 intro ps
 induction ps with
 | nil=>intro xs _ i p h;simp at h
 | cons q ps ih =>
  intro xs hx i p hp;obtain⟨pa,pc,a,cap,rest,rfl,h1,h2,h3,h4,hr⟩:=hx;cases i with
  | zero =>
   simp at hp;subst hp;refine⟨pa,pc,a,cap,fun r u hu => ?_,h1,h2,h3,h4⟩;rw[Nat.zero_mul,Nat.zero_add];rw[List.getElem?_append_left (List.getElem?_eq_some_iff.1 hu).1];exact hu
  | succ j =>
   simp at hp;obtain⟨pa',pc',a',cap',hc,r⟩:=ih hr j p hp;refine⟨pa',pc',a',cap',fun r u hu => ?_,r⟩;rw[List.getElem?_append_right (by simp;omega)];rw[← hc r u hu]
   congr 1
   simp;omega
theorem RepS.at {w:World} {F:Nat→Prop} {ps:List ByteArray} {a:Option Addr} (h:RepS w F ps a) (i:Nat) (s:ByteArray) (hs:ps[i]? = some s):∃ b off,a=some ⟨b,off,none⟩∧F b∧w.cell? ⟨b,off+i,none⟩=some (.string s):=by
 rcases h with rfl | ⟨b,off,rfl,hb,hc⟩
 ·simp at hs
 ·exact⟨b,off,rfl,hb,hc i _ (by rw[List.getElem?_map,hs];rfl)⟩
theorem RepFL.at {w:World} {F:Nat→Prop} {ps:List PFn} {a:Option Addr} (h:RepFL w F ps a) (i:Nat) (p:PFn) (hp:ps[i]? = some p) :
  ∃ b off pa pc qa qc,a=some ⟨b,off,none⟩∧F b∧(∀ (r:Nat) u,(fnC p pa pc qa qc)[r]? = some u→w.cell? ⟨b,off+i * 7+r,none⟩=some u)∧p.ps.length≤pc∧RepS w F p.ps pa∧p.bd.l.length≤qc∧RepNL w F p.bd.l qa:=by
 rcases h with rfl | ⟨b,off,xs,rfl,hb,hrow,hc⟩
 ·simp at hp
 ·obtain⟨pa,pc,qa,qc,hcs,h1,hS,h3,hL⟩:=rowF_at hrow i p hp
  exact⟨b,off,pa,pc,qa,qc,rfl,hb,fun r u hu=>by rw[Nat.add_assoc];exact hc _ _ (hcs r u hu),h1,hS,h3,hL⟩
end
section
abbrev tolV (L:Value) (k o:Int) (s:ByteArray) (n:Int) (l:Value) (at_ e:Int):Value:=.agg #[L,.int .i64 k,.int .i64 o,.string s,.int .i64 n,l,.int .i64 at_,.int .i64 e]
abbrev tolO (L:Value) (k o:Int) (s:ByteArray) (n:Int) (l:Value) (at_ e:Int):Obj:=.cells #[L,.int .i64 k,.int .i64 o,.string s,.int .i64 n,l,.int .i64 at_,.int .i64 e] 48 (0,0)
abbrev set8 (w:World) (b:Nat) (L:Value) (k o:Int) (s:ByteArray) (n:Int) (l:Value) (at_ e:Int):World:=((((((((w).setCell ⟨b,0,none⟩ L).setCell ⟨b,1,none⟩ (.int .i64 k)).setCell ⟨b,2,none⟩ (.int .i64 o)).setCell ⟨b,3,none⟩ (.string s)).setCell ⟨b,4,none⟩ (.int .i64 n)).setCell ⟨b,5,none⟩ l).setCell ⟨b,6,none⟩ (.int .i64 at_)).setCell ⟨b,7,none⟩ (.int .i64 e)
theorem set8_row {w:World} {b:Nat} {c0 c1 c2 c3 c4 c5 c6 c7:Value} (h:w.heap[b]? = some (.cells #[c0,c1,c2,c3,c4,c5,c6,c7] 48 (0,0))) (L:Value) (k o:Int) (s:ByteArray) (n:Int) (l:Value) (at_ e:Int):(set8 w b L k o s n l at_ e).heap[b]? = some (tolO L k o s n l at_ e):=by
 have h7:=row_set (row_set (row_set (row_set (row_set (row_set (row_set (row_set h 0 L) 1 (.int .i64 k)) 2 (.int .i64 o)) 3 (.string s)) 4 (.int .i64 n)) 5 l) 6 (.int .i64 at_)) 7 (.int .i64 e)
 simpa only [List.setIfInBounds_toArray,List.set_cons_zero,List.set_cons_succ] using h7
theorem set8_block {w:World} {b x:Nat} (hx:x≠b) (L:Value) (k o:Int) (s:ByteArray) (n:Int) (l:Value) (at_ e:Int):(set8 w b L k o s n l at_ e).heap[x]? = w.heap[x]?:=by
 rw[Below.heap_setCell _ _ _ _ hx,Below.heap_setCell _ _ _ _ hx,Below.heap_setCell _ _ _ _ hx,Below.heap_setCell _ _ _ _ hx,Below.heap_setCell _ _ _ _ hx,Below.heap_setCell _ _ _ _ hx,Below.heap_setCell _ _ _ _ hx,Below.heap_setCell _ _ _ _ hx]
theorem set8_ext {w0 w:World} (h:Ext w0 w) {b:Nat} (hb:w0.heap.size≤b) (L:Value) (k o:Int) (s:ByteArray) (n:Int) (l:Value) (at_ e:Int):Ext w0 (set8 w b L k o s n l at_ e) :=
 (((((((h.set (p:=⟨b,0,none⟩) hb _).set (p:=⟨b,1,none⟩) hb _).set (p:=⟨b,2,none⟩) hb _).set (p:=⟨b,3,none⟩) hb _).set (p:=⟨b,4,none⟩) hb _).set (p:=⟨b,5,none⟩) hb _).set (p:=⟨b,6,none⟩) hb _).set (p:=⟨b,7,none⟩) hb _
theorem set8_size (w:World) (b:Nat) (L:Value) (k o:Int) (s:ByteArray) (n:Int) (l:Value) (at_ e:Int):(set8 w b L k o s n l at_ e).heap.size=w.heap.size:=by simp[World.setCell]
theorem res_told {fn:Func} {p:Tmp} (h:fn.results = #[.cell p 48]) (tmps:Array Value) (w:World) (b:Nat) (L:Value) (k o:Int) (s:ByteArray) (n:Int) (l:Value) (at_ e:Int) (hL:L.oneCell' = true) (hl:l.oneCell' = true) (hp:tmps.getD p undef = .pointer (some ⟨b,0,none⟩)) (hg:w.heap[b]? = some (tolO L k o s n l at_ e)) :
  (results fn tmps).run Tryz.prog w = .ok (tolV L k o s n l at_ e) w :=
 results_cell_row h tmps w b _ _ _ _ hp hg Tryz.underlying48 rfl (by kernel_rfl)
theorem nrm_in {Q:Exit→Act→World→Prop} {a:Act} {w:World} (h:Q .normal a w):Nrm Q .normal a w:=h
theorem Sl.ownR {w1:World} {base:Nat} {v:Value} {ts:List Tk} (hown:w1.ownsRow base 105 4 v ts.length (ts.flatMap tkC)):∃ a cap,v = .slice a ts.length cap∧∀ W g,Ext w1 W→w1.heap.size≤g→Sl W g (.slice a ts.length cap) ts:=by
 obtain⟨hlen,⟨e,h0⟩ | ⟨b,cap,cur,rfl,hb,hrow,hc,hcm,_⟩⟩:=id hown
 ·have:ts = []:=List.length_eq_zero_iff.1 h0
  subst this;exact⟨none,0,e,fun W g _ _=>slNil _ _⟩
 ·exact⟨_,cap,rfl,fun W g x hg=>⟨_,cap,rfl,hc,by unfold maxLen at hcm;omega,Or.inr ⟨b,0,rfl,Nat.lt_of_lt_of_le (Array.getElem?_eq_some_iff.1 hrow).1 hg,fun j u hu=>x.cell (cells_own hown j u hu)⟩⟩⟩
end
section
variable {w w' wr w2:World} {g len:Nat} {T:List Tk} {wd:Int} {st:PS}
theorem function_r (bl:Rdr) (f:Nat) (hgb:GoodR bl) (hf:st.ts.length < f) (hf2:f≤90000) (hbl:RBlk g len T wd bl (funB len f st).2) (h:Rp w g len T wd st) :
  Calls Tryz.prog 14 #[.pointer (some ⟨g,0,none⟩)] w (RFun w g len T wd (funP len bl f st)):=by
 cases hS:((funA len st).2.sign len ⟨#[40]⟩).isS ⟨#[41]⟩
 ·exact function_some bl f hgb hf hf2 hbl hS h
 ·exact function_none bl f hgb hbl hS h
def widL (l:List PFn):Int:=l.foldl (fun m p=>max m (p.ps.length:Int)) 0
theorem widL_snoc (l:List PFn) (p:PFn):widL (l++[p])=max (widL l) (p.ps.length:Int):=by unfold widL;rw[List.foldl_append];rfl
theorem wid_any:∀ (l:List PFn) (m:Int),decide (8 < l.foldl (fun m p=>max m (p.ps.length:Int)) m)=(decide (8 < m) || l.any (fun p=>decide (8 < p.ps.length)))
 | [],m=>by rw[List.any_nil,Bool.or_false];rfl
 | p :: l,m=>by
  rw[List.foldl_cons,wid_any l,List.any_cons,← Bool.or_assoc]
  congr 1
  by_cases h1:8 < m <;> by_cases h2:8 < p.ps.length <;> simp[h1,h2] <;> omega
theorem widL_any (l:List PFn):decide (8 < widL l)=l.any (fun p=>decide (8 < p.ps.length)):=by
 unfold widL;rw[wid_any];rfl
structure PI (g len:Nat) (T:List Tk) (bl:Rdr) (f:Nat) (w wr:World) (R:List PFn × PS) (wd:Int) (stc:PS) (k:Nat) (acc ps:List PFn) (n:Nat) (ao:Option Addr) (cap:Nat):Prop where
 eq:R=funsP len bl f k acc stc
 np:stc.e=0→ps=acc
 hw:stc.e=0→wd=widL ps
 hn:ps.length=n
 fuel:stc.ts.length < k
 bnd:n+stc.ts.length≤100001
 hg:g < w.heap.size
 rs:Rp wr g len T wd stc
 gr:Gr g w wr
 own:∃ xs,wr.ownsRow w.heap.size 70 7 (.slice ao n cap) n xs∧RowF wr (fun b=>w.heap.size≤b∧b < wr.heap.size∧some b≠(Value.slice ao n cap).ownBlock) ps xs
theorem PI.snoc {bl:Rdr} {f:Nat} {w3:World} {R:List PFn × PS} {stc:PS} {r:PFn × PS} {j:Nat} {acc fs:List PFn} {N:Nat} {ao:Option Addr} {cap g' cap':Nat} {nm:ByteArray} {ps:List ByteArray} {pa:Option Addr} {pc:Nat} {k o n:Int} {s:ByteArray} {l:List PN} {a:Option Addr} {c:Nat} {xs:List Value} (ob:Obj)
  (h:PI g len T bl f w wr R wd stc (j+1) acc fs N ao cap) (hq:R=funsP len bl f j (acc++[r.1]) r.2) (hk:r.2.e=0→stc.e=0) (hp:r.2.e=0→(⟨nm,ps,⟨k,o,s,n,l⟩⟩:PFn)=r.1) (hl:r.2.ts.length < stc.ts.length) (hW:Gr g wr w2) (hS:Rp w2 g len T (widP wd ps.length) r.2) (hpc:ps.length≤pc) (hps:RepS w2 (Fr wr.heap.size w2.heap.size) ps pa) (hc:l.length≤c) (hll:RepNL w2 (Fr wr.heap.size w2.heap.size) l a)
  (hx:(w2.alloc ob).ownsRow w.heap.size 70 7 (.slice ao N cap) N xs∧RowF (w2.alloc ob) (fun b=>w.heap.size≤b∧b < (w2.alloc ob).heap.size∧some b≠(Value.slice ao N cap).ownBlock) fs xs)
  (ho:w3.ownsRow w.heap.size 70 7 (.slice (some ⟨g',0,none⟩) (N+1) cap') (N+1) (xs++[.string nm,.slice pa ps.length pc,.int .i64 k,.int .i64 o,.string s,.int .i64 n,.slice a l.length c]))
  (hgw:(w2.alloc ob).grownBy w3 (Value.slice ao N cap).ownBlock) (hw:(Value.slice ao N cap).ownBlock=some g'∨(w2.alloc ob).heap.size≤g') :
  PI g len T bl f w w3 R (widP wd ps.length) r.2 j (acc++[r.1]) (fs++[⟨nm,ps,⟨k,o,s,n,l⟩⟩]) (N+1) (some ⟨g',0,none⟩) cap':=by
 have hg:=h.hg;have hz:(w2.alloc ob).heap.size=w2.heap.size+1:=size_alloc _ _;have hn:=h.hn;have G3:Gr g w w3:=Gr.append ((h.gr.trans hW).alloc ob) hx.1 (Nat.le_refl _) hgw;have S3:Rp w3 g len T (widP wd ps.length) r.2:=(hS.ext (Ext.alloc _ ob)).append hg hx.1 hgw;have hsz:=h.gr.size;have hF:∀ b,(w.heap.size≤b∧b < (w2.alloc ob).heap.size∧some b≠(Value.slice ao N cap).ownBlock) →
   (w.heap.size≤b∧b < w3.heap.size∧some b≠(Value.slice (some ⟨g',0,none⟩) (N+1) cap').ownBlock)∧w3.heap[b]? = (w2.alloc ob).heap[b]?:=by
  intro b hb;refine⟨⟨hb.1,Nat.lt_of_lt_of_le hb.2.1 hgw.size,?_⟩,hgw.block b hb.2.1 hb.2.2⟩;intro e;simp only[Value.ownBlock,Option.some.injEq] at e;rcases hw with e2 | e2
  ·exact hb.2.2 (by rw[e2,e])
  ·have:=hb.2.1;omega
 have hE:∀ b,Fr wr.heap.size w2.heap.size b→(w.heap.size≤b∧b < (w2.alloc ob).heap.size∧some b≠(Value.slice ao N cap).ownBlock)∧(w2.alloc ob).heap[b]? = w2.heap[b]?:=by
  intro b hb;obtain⟨ys,hy,_⟩:=h.own;exact⟨⟨by have:=hb.1;omega,by have:=hb.2;omega,fun e=>by have:=(hy.lt b e.symm).2;have:=hb.1;omega⟩,(Ext.alloc w2 ob).block b hb.2⟩
 refine⟨hq,fun e=>by rw[h.np (hk e),hp e],fun e=>by rw[widL_snoc,h.hw (hk e)],by simp[hn],by have:=h.fuel;omega,by have:=h.bnd;omega,hg,S3,G3,_,ho,RowF.snoc (p:=⟨nm,ps,⟨k,o,s,n,l⟩⟩) hpc ((hps.to hE).to hF) hc (RepNL.to hF _ _ (RepNL.to hE _ _ hll)) (RowF.to hF hx.2)⟩
def RToldF (q:List PFn × PS) (w:World) (e:Ending) (w':World):Prop :=
 Ext w w'∧((q.2.e≠0∧e = .returned (tolV (.slice none 0 0) 0 0 zE 0 (.slice none 0 0) q.2.pl q.2.e)) ∨
  (q.2.e=0∧tooP q.1=true∧e = .returned (tolV (.slice none 0 0) 0 0 zE 0 (.slice none 0 0) 0 65)) ∨
  (q.2.e=0∧tooP q.1=false∧∃ a cap,e = .returned (tolV (.slice a q.1.length cap) 0 0 zE 0 (.slice none 0 0) 0 0)∧q.1.length≤cap∧RepFL w' (InW w') q.1 a))
theorem rprog_err (s:ByteArray) (f:Nat) (w:World) (P E:Int) (hE:E≠0) (hx:(rdP s f).2.e=E∧(rdP s f).2.pl=P) (hT:∀ W,Calls Tryz.prog 13 #[.string s] W fun e w'=>e = .returned (.agg #[.slice none 0 0,.int .i64 P,.int .i64 E])∧Ext W w'):Calls Tryz.prog 8 #[.string s] w (RToldF (rdP s f) w):=by
 have HX:=zh hx;have HT:=zh hT;have HE:=zh hE;have he1:(E == 0)=false:=by simpa using hE
 have he2:(E != 0)=true:=by simp[hE]
 clear hx hT hE
 go_enter Tryz.func8,Tryz.ntmps8
 go_wp2_with (go_at_call 13;refine Calls.mono (zu HT _) ?_;rintro e w1 ⟨rfl,hw⟩;have X1:=zh ((Ext.alloc _ _).trans hw);have R1:=zh (hw.row (Go.heap_alloc_new w _));have hz1:w.heap.size < w1.heap.size:=(Array.getElem?_eq_some_iff.1 (zu R1)).1;have r0:=zr (zu R1) 0 rfl;have r1:=zr (zu R1) 1 rfl;have r2:=zr (zu R1) 2 rfl;have r3:=zr (zu R1) 3 rfl;have r4:=zr (zu R1) 4 rfl;have r5:=zr (zu R1) 5 rfl;have r6:=zr (zu R1) 6 rfl;have r7:=zr (zu R1) 7 rfl;have rz:=rowF (zu R1);clear hw)
 have hrowF:=(Ext.alloc (set8 w1 w.heap.size (.slice none 0 0) 0 0 zE 0 (.slice none 0 0) P E) (.cells #[.slice none 0 0,.int .i64 P,.int .i64 E] 63)).row (set8_row (zu R1) (.slice none 0 0) 0 0 zE 0 (.slice none 0 0) P E);exact bodyPost_ret (v:=tolV (.slice none 0 0) 0 0 zE 0 (.slice none 0 0) P E) (res_told Tryz.results8 _ _ w.heap.size _ _ _ _ _ _ _ _ rfl rfl rfl hrowF) rfl ⟨(set8_ext (zu X1) (Nat.le_refl _) _ _ _ _ _ _ _ _).trans (Ext.alloc _ _),Or.inl ⟨by rw[(zu HX).1];exact zu HE,by rw[(zu HX).1,(zu HX).2]⟩⟩
theorem rd_bad {s:ByteArray} {f:Nat} (nv:Nv (begP s)) (h:(begP s).e≠0):(rdP s f).2.e=(begP s).e∧(rdP s f).2.pl=(begP s).pl :=
 (funs_kp s.size (sts_kp s.size f f).2.1 f f [] (begP s) nv).bad h
end
section
theorem rprog_ok (s:ByteArray) (f:Nat) (w:World) (hs:s.size≤4000) (hn:(lexF (s.size+1) s 0).2=none) (hf:(begP s).ts.length < f) (hf2:f≤90000):Calls Tryz.prog 8 #[.string s] w (RToldF (rdP s f) w):=by
 have hb:=begP_good hs hn;have hTl:=lexF_len (s.size+1) s 0;have htk:=lexF_ok s (s.size+1);have HT:Hd (∀ W,Calls Tryz.prog 13 #[.string s] W fun e w' => ∃ a cap,e = .returned (.agg #[.slice a (lexF (s.size+1) s 0).1.length cap,.int .i64 0,.int .i64 0])∧(∀ W2 g,Ext w' W2→w'.heap.size≤g→Sl W2 g (.slice a (lexF (s.size+1) s 0).1.length cap) (lexF (s.size+1) s 0).1)∧Ext W w'):=fun W=>by
  refine Calls.mono (rtokens_any s W (by omega)) ?_;rintro e w' (⟨h9,_⟩ | ⟨_,b,h9,_⟩ | ⟨_,_,v,base,rfl,hbs,hown,hw⟩)
  ·omega
  ·rw[hn] at h9;cases h9
  ·obtain⟨a,cap,rfl,h9⟩:=Sl.ownR hown
   exact⟨a,cap,rfl,h9,hw⟩
 obtain⟨bl,hbl⟩:∃ bl,bl=(stsP s.size f f).2.1:=⟨_,rfl⟩;obtain⟨RS,hRS⟩:∃ RS,RS=rdP s f:=⟨_,rfl⟩;rw[← hRS];unfold rdP at hRS;rw[hb,← hbl] at hRS;rw[hb] at hf;generalize (lexF (s.size+1) s 0).1=T at *;simp only at hf;have HGB:Hd (GoodR bl):=by rw[Hd,hbl];exact(sts_kp s.size f f).2.1
 have HSH:Hd (Shorter bl):=by rw[Hd,hbl];exact(sts_le s.size f f).2.1
 have HFun:Hd (∀ (g:Nat) (wd:Int) (st:PS) (W:World),st.ts≠[]→st.ts.length≤T.length→Rp W g s.size T wd st→Calls Tryz.prog 14 #[.pointer (some ⟨g,0,none⟩)] W (RFun W g s.size T wd (funP s.size bl f st))):=fun g wd st W hne hl x=>by
  have q:=funB_lt (len:=s.size) (f:=f) hne;refine function_r bl f (zu HGB) (by omega) hf2 ?_ x;rw[hbl];exact rblk f (by omega) _ (by omega)
 have HRp:Hd (∀ W g V,W.heap[g]? = some (rpO V 0 0 0 0 s.size 0)→Sl W g V T→Rp W g s.size T 0 ⟨T,0,0,0⟩):=fun W g V h1 h2=>⟨⟨V,0,0,0,h1,h2,Nat.zero_le _,fun _=>⟨rfl,rfl⟩,fun e=>absurd rfl e⟩,⟨fun _=>⟨(show (0:Int)≤0 by decide),(show (0:Int)≤24 by decide)⟩,fun e=>absurd rfl e⟩,htk,by omega⟩;have HRS:=zh hRS;clear hRS hb hn htk hbl;obtain⟨i0,hi,hz0,hz1,hz2⟩:=info_parts infoF;have HI:=zh hi;have Z0:=zh hz0;have Z1:=zh hz1;have Z2:=zh hz2;clear hi hz0 hz1 hz2
 go_enter Tryz.func8,Tryz.ntmps8
 go_wp2_with (go_at_call 13;refine Calls.mono (zu HT _) ?_;rintro e w1 ⟨a,cap,rfl,hsl,hw⟩;have X1:=zh ((Ext.alloc _ _).trans hw);have R1:=zh (hw.row (Go.heap_alloc_new w _));have HSl:=zh hsl;have hz1:w.heap.size < w1.heap.size:=(Array.getElem?_eq_some_iff.1 (zu R1)).1;clear hw hsl)
 obtain⟨W2,hW2⟩:∃ W2,W2=((w1.alloc (.cells #[.slice a T.length cap,.int .i64 0,.int .i64 0] 63)).alloc (rpO (.slice a T.length cap) 0 0 0 0 s.size 0)):=⟨_,rfl⟩;have hX2:Ext w1 W2:=by rw[hW2];exact(Ext.alloc _ _).trans (Ext.alloc _ _)
 have hrow2:W2.heap[w1.heap.size+1]? = some (rpO (.slice a T.length cap) 0 0 0 0 s.size 0):=by
  have:=Go.heap_alloc_new (w1.alloc (.cells #[.slice a T.length cap,.int .i64 0,.int .i64 0] 63)) (rpO (.slice a T.length cap) 0 0 0 0 s.size 0);rw[size_alloc] at this;rw[hW2];exact this
 have hP2:=zu HRp W2 (w1.heap.size+1) _ hrow2 (zu HSl W2 _ hX2 (by omega));have R2:=zh (hX2.row (zu R1));have X2:=zh ((zu X1).trans hX2);have hg2:w1.heap.size+1 < W2.heap.size:=hP2.lt;have MI:Hd (PI (w1.heap.size+1) s.size T bl f W2 W2 RS 0 ⟨T,0,0,0⟩ f [] [] 0 none 0):=⟨zu HRS,fun _=>rfl,fun _=>rfl,rfl,hf,by show 0+T.length≤100001;omega,hg2,hP2,Gr.refl _ _,[],World.ownsRow_nil _ _ _ _,rfl⟩;refine gen_world (F:=fun W=>Code.wp _ _ _ _ W) ?_;intro W9 hW9;obtain rfl:W9=W2:=hW9.trans hW2.symm;clear hW2 hX2 hrow2 hP2 hW9 HRp HSl HT X1 R1 HRS
 go_loopw [5] (fun t wr => ∃ (acc ps:List PFn) (nq:Nat) (ao:Option Addr) (cap:Nat) (wd:Int) (stc:PS) (j:Nat),t = .slice ao nq cap∧Hd (PI (w1.heap.size+1) s.size T bl f W9 wr RS wd stc j acc ps nq ao cap)∧stc.ts.length≤T.length) (fun _ wr=>rleft (w1.heap.size+1) T.length wr)
 case atStart=>exact⟨[],[],0,none,0,0,⟨T,0,0,0⟩,f,rfl,MI,Nat.le_refl _⟩
 case round =>
  clear MI;obtain⟨acc,ps,nq,ao,cap,wd,stc,j,rfl,hM,hle⟩:=hrel;have hnvc:=(zu hM).rs.nv;have hfu:=(zu hM).fuel;have hbd:=(zu hM).bnd;have hgrz:=(zu hM).gr.size;obtain⟨j,rfl⟩:∃ i,j=i+1:=⟨j - 1,by omega⟩;have hm0:=rleft_eq (zu hM).rs;have RR:=zh ((zu hM).gr.row (zu R2) (by omega));obtain⟨V,i,pl,dp,hrow,hSl,hiT,h4,h5⟩:=(zu hM).rs.ex;obtain⟨a4,cap4,rfl,_⟩:=hSl;by_cases hec:stc.e=0
  ·rw[hec] at hrow
   rw[if_pos hec] at hm0;obtain⟨c0,c1,c2,c3,c4,c5,c6,zf⟩:=rp_c hrow;have hdr:=(h4 hec).1;by_cases hts:stc.ts = []
   ·have hi:¬ i < T.length:=by
     intro h9;rw[hts] at hdr;have h8:=List.drop_eq_nil_iff.1 hdr;omega
    have hnp:=(zu hM).np hec;have hwd:=(zu hM).hw hec;have hR:RS=(ps,stc):=by rw[(zu hM).eq,funsP,hts,hnp];rfl
    have HR1:Hd (RS.1=ps):=by rw[Hd,hR]
    have HR2:Hd (RS.2.e=0):=by rw[Hd,hR];exact hec
    have htoo:tooP ps=(decide (16 < ps.length) || decide (8 < wd)):=by unfold tooP;rw[hwd,widL_any]
    rw[(zu hM).hn] at htoo;obtain⟨d1,d2⟩:nq≤cap∧RepFL wr (Fr W9.heap.size wr.heap.size) ps ao:=by
     have h9:=(zu hM).own;have hn9:=(zu hM).hn;subst hn9;exact own_F h9
    have hn9:=(zu hM).hn;have HN9:=zh hn9;have FL:=zh d2;have hi2:¬ (i:Int) < (T.length:Int):=by omega
    have hi3:decide ((i:Int) < (T.length:Int))=false:=by simp;omega
    have c6':=c6;have c2':=c2;clear hR hnp hwd hrow h4 h5 hdr hi hm0 d2 hn9;have HW:Nonempty (RGw wr):=⟨⟨wr,Ext.refl _⟩⟩;have k0:∀ y:RGw wr,y.w.cell? ⟨w1.heap.size+1,0,none⟩=some (.slice a4 T.length cap4):=fun y=>y.h.cell c0;have k1:∀ y:RGw wr,y.w.cell? ⟨w1.heap.size+1,1,none⟩=some (.int .i64 (i:Int)):=fun y=>y.h.cell c1;have k2:∀ y:RGw wr,y.w.cell? ⟨w1.heap.size+1,2,none⟩=some (.int .i64 0):=fun y=>y.h.cell c2;clear c0 c1 c2 c3 c4 c5 c6 zf
    go_wp2_with fail
    refine wp_region_rx (W:=wr) (by kernel_rfl) (by kernel_rfl) (Ext.refl _) ?_
    repeat (go_big_quiet_step (fail))
    refine wpQuiet_nil ?_;rintro w4 ⟨n4,hn4⟩;have hx4:Ext wr w4:=hn4 ▸ n4.h;have X4:=zh hx4;clear hn4 n4 k0 k1 k2 HW hx4;have RR4:=zh ((zu X4).row (zu RR));have d6:=(zu X4).cell c6';have d2:=(zu X4).cell c2';clear c6' c2' RR;have r0:=zr (zu RR4) 0 rfl;have r1:=zr (zu RR4) 1 rfl;have r2:=zr (zu RR4) 2 rfl;have r3:=zr (zu RR4) 3 rfl;have r4:=zr (zu RR4) 4 rfl;have r5:=zr (zu RR4) 5 rfl;have r6:=zr (zu RR4) 6 rfl;have r7:=zr (zu RR4) 7 rfl;have rz:=rowF (zu RR4);have XW:=zh (((zu X2).gr (zu hM).gr (by omega)).trans (zu X4));have hzw:w.heap.size < W9.heap.size:=by omega
    have hm16:∀ x:Bool,decide (16 < nq)=x→decide ((16:Int) < (nq:Int))=x:=fun x hx=>by rw[← hx];by_cases h9:16 < nq <;> simp[h9] <;> omega
    cases h16:decide (16 < nq)
    ·have h16b:=hm16 _ h16
     cases h8:decide (8 < wd)
     ·have HTo:Hd (tooP RS.1=false):=by rw[Hd,zu HR1,htoo,h16,h8];rfl
      have h8p:¬ 8 < wd:=by simpa using h8
      have h16p:¬ (16:Int) < (nq:Int):=by simpa using h16b
      clear h16 htoo hm16
      go_wp2_with fail
      refine bodyPost_ret (v:=tolV (.slice ao nq cap) 0 0 zE 0 (.slice none 0 0) 0 0) (res_told Tryz.results8 _ _ w.heap.size _ _ _ _ _ _ _ _ rfl rfl rfl (set8_row (zu RR4) _ _ _ _ _ _ _ _)) rfl ⟨set8_ext (zu XW) (Nat.le_refl _) _ _ _ _ _ _ _ _,Or.inr (Or.inr ⟨zu HR2,zu HTo,ao,cap,?_,?_,?_⟩)⟩
      ·rw[zu HR1,zu HN9]
      ·rw[zu HR1,zu HN9];exact d1
      ·rw[zu HR1]
       refine RepFL.to (fun b hb => ?_) (zu FL);have q1:=hb.1;have q2:=hb.2;have q3:=(zu X4).size;exact⟨by show b < _;rw[set8_size];omega,(set8_block (by omega) _ _ _ _ _ _ _ _).trans ((zu X4).block b q2)⟩
     ·have HTo:Hd (tooP RS.1=true):=by rw[Hd,zu HR1,htoo,h16,h8];rfl
      have h8p:8 < wd:=by simpa using h8
      have h16p:¬ (16:Int) < (nq:Int):=by simpa using h16b
      clear h16 htoo hm16
      go_wp2_with fail
      exact bodyPost_ret (v:=tolV (.slice none 0 0) 0 0 zE 0 (.slice none 0 0) 0 65) (res_told Tryz.results8 _ _ w.heap.size _ _ _ _ _ _ _ _ rfl rfl rfl (set8_row (zu RR4) _ _ _ _ _ _ _ _)) rfl ⟨set8_ext (zu XW) (Nat.le_refl _) _ _ _ _ _ _ _ _,Or.inr (Or.inl ⟨zu HR2,zu HTo,rfl⟩)⟩
    ·have h16b:=hm16 _ h16
     have HTo:Hd (tooP RS.1=true):=by rw[Hd,zu HR1,htoo,h16];rfl
     have h16p:(16:Int) < (nq:Int):=by simpa using h16b
     clear h16 htoo hm16
     go_wp2_with fail
     exact bodyPost_ret (v:=tolV (.slice none 0 0) 0 0 zE 0 (.slice none 0 0) 0 65) (res_told Tryz.results8 _ _ w.heap.size _ _ _ _ _ _ _ _ rfl rfl rfl (set8_row (zu RR4) _ _ _ _ _ _ _ _)) rfl ⟨set8_ext (zu XW) (Nat.le_refl _) _ _ _ _ _ _ _ _,Or.inr (Or.inl ⟨zu HR2,zu HTo,rfl⟩)⟩
   ·have hi:i < T.length:=by
     apply Nat.lt_of_not_le;intro h9;exact hts (by rw[← hdr];exact List.drop_eq_nil_of_le h9)
    have hz:((stc.ts.length:Int) == 0)=false:=by have:=List.length_pos_iff.2 hts;simp;exact hts
    have hEq:RS=funsP s.size bl f j (acc++[(funP s.size bl f stc).1]) (funP s.size bl f stc).2:=by rw[(zu hM).eq,funsP,hz];rfl
    have HEq:=zh hEq;have hl1:=fun_lt (len:=s.size) (f:=f) (zu HSH) hts;have HKp:=zh (fun_kp s.size (zu HGB) f stc hnvc);have HFn:=zh (fun (W:World) (x:Rp W (w1.heap.size+1) s.size T wd stc)=>zu HFun (w1.heap.size+1) wd stc W hts hle x);have hi2:(i:Int) < (T.length:Int):=by omega
    have hi3:decide ((i:Int) < (T.length:Int))=true:=by simp;omega
    obtain⟨xs,hx⟩:=(zu hM).own;have HXS:=zh (fun w2 (x:Gr (w1.heap.size+1) wr w2)=>heldF_on hx x (zu hM).hg);have hst0:(if (funP s.size bl f stc).2.e=0 then 1+(funP s.size bl f stc).2.ts.length else 0) < 1+stc.ts.length:=by split <;> omega
    clear hEq hrow h4 h5 hdr hi hz hx;generalize funP s.size bl f stc=q at *;have HW:Nonempty (RGw wr):=⟨⟨wr,Ext.refl _⟩⟩;have k0:∀ y:RGw wr,y.w.cell? ⟨w1.heap.size+1,0,none⟩=some (.slice a4 T.length cap4):=fun y=>y.h.cell c0;have k1:∀ y:RGw wr,y.w.cell? ⟨w1.heap.size+1,1,none⟩=some (.int .i64 (i:Int)):=fun y=>y.h.cell c1;have k2:∀ y:RGw wr,y.w.cell? ⟨w1.heap.size+1,2,none⟩=some (.int .i64 0):=fun y=>y.h.cell c2;clear c0 c1 c2 c3 c4 c5 c6 zf
    go_wp2_with fail
    refine wp_region_rx (W:=wr) (by kernel_rfl) (by kernel_rfl) (Ext.refl _) ?_
    repeat (go_big_quiet_step (fail))
    refine wpQuiet_nil ?_;rintro w4 ⟨n4,hn4⟩;have hx4:Ext wr w4:=hn4 ▸ n4.h;have X4:=zh hx4;clear hn4 n4 k0 k1 k2 HW hx4
    go_wp2_with (first
     | (have T9:=zu X4;go_at_call 14;refine Calls.mono (zu HFn _ ((zu hM).rs.ext T9)) ?_;rintro e w5 ⟨v,p,rfl,⟨pa,pc,a5,c5,rfl,hpc,hps,hcap5,hll⟩,hp,hs5,hw⟩;obtain⟨nm,psx,⟨k,o,sx,n,l⟩⟩:=p;simp only at hpc hps hcap5 hll hp hs5;have S5:=zh hs5;have X5:=zh ((Gr.of (g:=w1.heap.size+1) T9).trans hw);have P5:=zh hp;have q9:=T9.size;have PS5:Hd (RepS w5 (Fr wr.heap.size w5.heap.size) psx pa):=hps.to (fun b hb=>⟨⟨by have:=hb.1;omega,hb.2⟩,rfl⟩);have L5:Hd (RepNL w5 (Fr wr.heap.size w5.heap.size) l a5):=RepNL.to (fun b hb=>⟨⟨by have:=hb.1;omega,hb.2⟩,rfl⟩) _ _ hll;have hz5:wr.heap.size≤w5.heap.size:=(zu X5).size;clear hw hs5 hps hll hp T9 X4 q9)
     | (at_builtin;refine wpList_append_where rfl (.tmp 39) (.tmp 42) 43 rfl W9.heap.size 70 i0 (funV zE none 0 0 0 0 zE 0 none 0 0) 7 104 Tryz.underlying43 (zu HI) (zu Z0) (zu Z1) (zu Z2) rfl (by decide) ao nq cap xs rfl (zu HXS _ ((zu X5).alloc _)).1 ⟨w5.heap.size,0,none⟩ 1 1 [.string nm,.slice pa psx.length pc,.int .i64 k,.int .i64 o,.string sx,.int .i64 n,.slice a5 l.length c5] rfl (by decide) rfl (cells_new w5 _ _) (one_fun _ _ _ _ _ _ _ _ _ _ _) ?c1 ?c2 ?c3 ?_))
    case c1=>unfold maxLen;omega
    case c2=>omega
    case c3=>simp;omega
    intro g2 cap6 w6 ho6 hg6 hw6;have MN:=zh (PI.snoc (r:=q) _ (zu hM) (zu HEq) (fun e=>((zu HKp).ok e).1) (zu P5) hl1 (zu X5) (zu S5) hpc (zu PS5) hcap5 (zu L5) (zu HXS _ ((zu X5).alloc _)) ho6 hg6 (by rw[size_alloc];exact hw6));have hm1:=rleft_eq (zu MN).rs;clear ho6 hg6 hw6
    go_wp2_with fail
    go_roundw
    case rel=>exact⟨_,_,_,_,_,_,q.2,j,rfl,MN,by omega⟩
    case measure=>rw[hm0];exact Nat.lt_of_le_of_lt (Nat.le_of_eq hm1) hst0
  ·have he2:(stc.e == 0)=false:=by simpa using hec
   have he3:(stc.e != 0)=true:=by simp[hec]
   have hts:=hnvc.nil hec;have hR:RS=(acc,stc):=by rw[(zu hM).eq,funsP,hts];rfl
   have HE1:Hd (RS.2.e=stc.e):=by rw[Hd,hR]
   have HE2:Hd (RS.2.pl=stc.pl):=by rw[Hd,hR]
   have HEN:=zh hec;obtain⟨c0,c1,c2,c3,c4,c5,c6,zf⟩:=rp_c hrow;have c3':=c3;rw[h5 hec] at c3';have c2':=c2;clear hR hrow h4 h5 hm0 hec;have HW:Nonempty (RGw wr):=⟨⟨wr,Ext.refl _⟩⟩;have k0:∀ y:RGw wr,y.w.cell? ⟨w1.heap.size+1,0,none⟩=some (.slice a4 T.length cap4):=fun y=>y.h.cell c0;have k1:∀ y:RGw wr,y.w.cell? ⟨w1.heap.size+1,1,none⟩=some (.int .i64 (i:Int)):=fun y=>y.h.cell c1;have k2:∀ y:RGw wr,y.w.cell? ⟨w1.heap.size+1,2,none⟩=some (.int .i64 stc.e):=fun y=>y.h.cell c2;clear c0 c1 c2 c3 c4 c5 c6 zf
   go_wp2_with fail
   refine wp_region_rx (W:=wr) (by kernel_rfl) (by kernel_rfl) (Ext.refl _) ?_
   repeat (go_big_quiet_step (fail))
   refine wpQuiet_nil ?_;rintro w4 ⟨n4,hn4⟩;have hx4:Ext wr w4:=hn4 ▸ n4.h;have X4:=zh hx4;clear hn4 n4 k0 k1 k2 HW hx4;have RR4:=zh ((zu X4).row (zu RR));have d2:=(zu X4).cell c2';have d3:=(zu X4).cell c3';clear c2' c3' RR;have r0:=zr (zu RR4) 0 rfl;have r1:=zr (zu RR4) 1 rfl;have r2:=zr (zu RR4) 2 rfl;have r3:=zr (zu RR4) 3 rfl;have r4:=zr (zu RR4) 4 rfl;have r5:=zr (zu RR4) 5 rfl;have r6:=zr (zu RR4) 6 rfl;have r7:=zr (zu RR4) 7 rfl;have rz:=rowF (zu RR4);have XW:=zh (((zu X2).gr (zu hM).gr (by omega)).trans (zu X4));have hwg:(w.heap.size == w1.heap.size+1)=false:=by simp;omega
   go_wp2_with fail
   refine wp_nrm ?_
   first | skip;go_region_law (first | fail) | fail
   all_goals
    refine nrm_in ?_
    go_wp2_with fail
    have hrowF:(set8 w4 w.heap.size (.slice none 0 0) 0 0 zE 0 (.slice none 0 0) stc.pl stc.e).drew.heap[w.heap.size]? = some (tolO (.slice none 0 0) 0 0 zE 0 (.slice none 0 0) stc.pl stc.e):=(Ext.drew (Ext.refl _)).row (set8_row (zu RR4) _ _ _ _ _ _ _ _);exact bodyPost_ret (v:=tolV (.slice none 0 0) 0 0 zE 0 (.slice none 0 0) stc.pl stc.e) (res_told Tryz.results8 _ _ w.heap.size _ _ _ _ _ _ _ _ rfl rfl rfl hrowF) rfl ⟨(set8_ext (zu XW) (Nat.le_refl _) _ _ _ _ _ _ _ _).drew,Or.inl ⟨by rw[zu HE1];exact zu HEN,by rw[zu HE1,zu HE2]⟩⟩
end
end Go.Proofs.YtjnpehohialmbaaGreat
