/- The words of a text,read off what is left of it: the same as lexF,in fewer steps. -/
import Derived.Test.YtjnpehohialmbaaGreatZs4
set_option linter.unusedSimpArgs false
set_option linter.unusedVariables false
set_option maxRecDepth 10000
set_option maxHeartbeats 1000000
namespace Go.Proofs.YtjnpehohialmbaaGreat
open Go.RowKit
section
def numL (l:List UInt8) (d:Nat):Option (Int × List UInt8 × Int × Nat) :=
 if 9223372036854775807 < dv 0 (l.take d) then none
 else if l[d]? == some 105 then (if (l[d+1]?.map nm).getD false then none else some (4,[],dv 0 (l.take d),d+1))
 else (if (l[d]?.map nm).getD false then none else some (3,[],dv 0 (l.take d),d))
def nameL (l:List UInt8) (r:Nat):Option (Int × List UInt8 × Int × Nat) :=
 if 16 < r then none else some (if wordL (l.take r) then 2 else 1,l.take r,0,r)
def textL (f:Nat) (l:List UInt8):Option (Int × List UInt8 × Int × Nat):=(txF f l).map fun p=>(5,p.1,0,1+p.2)
def opLL (l:List UInt8) (r:Nat):Option (Int × List UInt8 × Int × Nat):=if r=0 then none else some (6,l.take r,0,r)
def tokL (f:Nat):List UInt8→Option (Int × List UInt8 × Int × Nat)
 | []=>none
 | c :: r=>if dg c then numL (c :: r) (run dg (c :: r)) else if nm c then nameL (c :: r) (run nm (c :: r)) else if c.toNat=34 then textL f r else opLL (c :: r) (opL (c :: r))
def upT (o:Nat) (q:Int × List UInt8 × Int × Nat):Int × ByteArray × Int × Nat:=(q.1,⟨q.2.1.toArray⟩,q.2.2.1,o+q.2.2.2)
theorem ext_mk (s:ByteArray) (o r:Nat):s.extract o (o+r)=⟨(((L s).drop o).take r).toArray⟩:=by
 apply L_inj;rw[L_extract,Nat.add_sub_cancel_left];exact(L_mk _).symm
theorem tokT_L (s:ByteArray) (o:Nat):tokT s o=(tokL (s.size+1) ((L s).drop o)).map (upT o):=by
 unfold tokT;have hd:(L s)[o]? = ((L s).drop o)[0]?:=by rw[List.getElem?_drop];rfl
 have ht:(L s).drop (o+1)=((L s).drop o).drop 1:=by rw[List.drop_drop]
 have hg:∀ k,(L s)[o+k]? = ((L s).drop o)[k]?:=fun k=>by rw[List.getElem?_drop]
 have hx:=ext_mk s o;unfold numT nameT textT opT nv isI nmAt nd;rw[hd,ht,hg,Nat.add_assoc,hg,hx,hx];generalize (L s).drop o=l;cases l with
 | nil=>rfl
 | cons c r =>
  show (if dg c=true then _ else _)=_
  rw[tokL];by_cases h1:dg c=true
  ·rw[if_pos h1,if_pos h1]
   unfold numL
   (repeat' split) <;> simp_all [upT] <;> rfl
  ·rw[if_neg h1,if_neg h1]
   by_cases h2:nm c=true
   ·rw[if_pos h2,if_pos h2]
    unfold nameL
    split <;> simp_all [upT]
   ·rw[if_neg h2,if_neg h2]
    by_cases h3:c.toNat=34
    ·rw[if_pos h3,if_pos h3]
     unfold textL;rw[List.drop_succ_cons,List.drop_zero,Option.map_map]
     congr 1
     funext p
     simp[upT,Nat.add_assoc]
    ·rw[if_neg h3,if_neg h3]
     unfold opLL
     split <;> simp_all [upT]
def lexL (F:Nat):Nat→List UInt8→Nat→List Tk × Option Nat
 | 0,_,_=>([],some 0)
 | f+1,l,o=>match l.drop (skp false l) with
  | []=>([],none)
  | c :: r=>match tokL F (c :: r) with
   | none=>([],some (o+skp false l))
   | some (k,t,n,m)=>(⟨k,⟨t.toArray⟩,n,o+skp false l⟩ :: (lexL F f ((c :: r).drop m) (o+skp false l+m)).1,(lexL F f ((c :: r).drop m) (o+skp false l+m)).2)
theorem lexF_L (s:ByteArray):∀ (f o:Nat),o≤s.size→lexF f s o=lexL (s.size+1) f ((L s).drop o) o:=by
 intro f
 induction f with
 | zero=>intro o _;rfl
 | succ f ih =>
  intro o ho;rw[lexF,lexL];have hdd:((L s).drop o).drop (skp false ((L s).drop o))=(L s).drop (o+skp false ((L s).drop o)):=by rw[List.drop_drop]
  have hsk:skp false ((L s).drop o)≤s.size - o:=by
   have:=skp_le ((L s).drop o) false;rw[List.length_drop,L_len] at this;exact this
  generalize skp false ((L s).drop o)=k at *;rw[hdd,tokT_L];by_cases hz:s.size≤o+k
  ·rw[if_pos hz,L_end s _ hz]
  ·rw[if_neg hz,L_drop s (o+k) (by omega)]
   have hdr:=L_drop s (o+k) (by omega);show (match Option.map (upT (o+k)) (tokL (s.size+1) (s[o+k] :: (L s).drop (o+k+1))) with | none => _ | some (k_1,t,n,m) => _)=(match tokL (s.size+1) (s[o+k] :: (L s).drop (o+k+1)) with | none => _ | some (k_1,t,n,m) => _)
   rw[← hdr];cases ht:tokL (s.size+1) ((L s).drop (o+k)) with
   | none=>rfl
   | some q =>
    obtain⟨a,t,n,m⟩:=q;have hm:o+k+m≤s.size:=(tok_lt s (o+k) a ⟨t.toArray⟩ n (o+k+m) (by rw[tokT_L,ht];rfl)).2;show (_ :: (lexF f s (o+k+m)).1,(lexF f s (o+k+m)).2)=_;rw[ih _ hm];simp only[List.drop_drop]
end
section
def TkOk (t:Tk):Prop:=(t.k=2→wordL (L t.t)=true)∧(t.k=6→(o2 (L t.t) || o1 (L t.t))=true)
theorem tokL_ok (F:Nat) (l:List UInt8) (k:Int) (t:List UInt8) (n:Int) (m:Nat) (h:tokL F l=some (k,t,n,m)):(k=2→wordL t=true)∧(k=6→(o2 t || o1 t)=true):=by
 cases l with
 | nil=>cases h
 | cons c r =>
  rw[tokL] at h
  split at h
  ·unfold numL at h
   (repeat' split at h) <;> first | cases h;done | (cases h;exact⟨fun e=>absurd e (by decide),fun e=>absurd e (by decide)⟩)
  split at h
  ·unfold nameL at h
   split at h
   ·cases h
   ·injection h with h
    injection h with h1 h2;injection h2 with h2 h3;subst h1 h2;refine⟨fun e => ?_,fun e => ?_⟩
    ·split at e
     ·assumption
     ·exact absurd e (by decide)
    ·split at e <;> exact absurd e (by decide)
  split at h
  ·unfold textL at h
   obtain⟨p,_,hp⟩:=Option.map_eq_some_iff.1 h;cases hp;exact⟨fun e=>absurd e (by decide),fun e=>absurd e (by decide)⟩
  ·unfold opLL at h
   split at h
   ·cases h
   ·rename_i h0
    injection h with h;injection h with h1 h2;injection h2 with h2 h3;subst h1 h2;refine⟨fun e=>absurd e (by decide),fun _ => ?_⟩;unfold opL at *
    split
    ·rename_i h2;rw[h2];rfl
    ·rename_i h2
     rw[if_neg h2] at h0
     split
     ·rename_i h3;rw[h3,Bool.or_true]
     ·rename_i h3;rw[if_neg h3] at h0;exact absurd rfl h0
theorem lexL_ok (F:Nat):∀ (f:Nat) (l:List UInt8) (o:Nat),∀ t ∈ (lexL F f l o).1,TkOk t:=by
 intro f
 induction f with
 | zero=>intro l o t h;simp[lexL] at h
 | succ f ih =>
  intro l o t h;rw[lexL] at h
  split at h
  ·simp at h
  ·split at h
   ·simp at h
   ·rename_i c r _ k tx n m ht
    rcases List.mem_cons.1 h with rfl | h
    ·exact tokL_ok F _ k tx n m ht
    ·exact ih _ _ t h
theorem lexF_ok (s:ByteArray) (f:Nat):∀ t ∈ (lexF f s 0).1,TkOk t:=by
 rw[lexF_L _ _ _ (Nat.zero_le _)];exact lexL_ok _ _ _ _
abbrev rpO (V:Value) (i:Nat) (e pl dp:Int) (len:Nat) (wd:Int):Obj:=.cells #[V,.int .i64 (i:Int),.int .i64 e,.int .i64 pl,.int .i64 dp,.int .i64 (len:Int),.int .i64 wd] 67 (0,0)
structure Rp (w:World) (g len:Nat) (T:List Tk) (wd:Int) (st:PS):Prop where
 ex:∃ V i pl dp,w.heap[g]? = some (rpO V i st.e pl dp len wd)∧Sl w g V T∧i≤T.length∧(st.e=0→T.drop i=st.ts∧dp=st.op)∧(st.e≠0→pl=st.pl)
 nv:Nv st
 tk:∀ t ∈ T,TkOk t
 tl:T.length≤4001
theorem rp_c {w:World} {g:Nat} {V:Value} {i:Nat} {e pl dp:Int} {len:Nat} {wd:Int} (h:w.heap[g]? = some (rpO V i e pl dp len wd)):w.cell? ⟨g,0,none⟩=some V∧w.cell? ⟨g,1,none⟩=some (.int .i64 (i:Int))∧w.cell? ⟨g,2,none⟩=some (.int .i64 e)∧w.cell? ⟨g,3,none⟩=some (.int .i64 pl)∧w.cell? ⟨g,4,none⟩=some (.int .i64 dp)∧w.cell? ⟨g,5,none⟩=some (.int .i64 (len:Int))∧w.cell? ⟨g,6,none⟩=some (.int .i64 wd)∧∀ i,w.frozen? ⟨g,i,none⟩=false :=
 ⟨zr h 0 rfl,zr h 1 rfl,zr h 2 rfl,zr h 3 rfl,zr h 4 rfl,zr h 5 rfl,zr h 6 rfl,rowF h⟩
variable {w w':World} {g len:Nat} {T:List Tk} {wd:Int} {st:PS}
theorem Rp.lt (h:Rp w g len T wd st):g < w.heap.size:=by
 obtain⟨V,i,pl,dp,h1,_⟩:=h.ex;exact(Array.getElem?_eq_some_iff.1 h1).1
theorem Rp.gr (h:Rp w g len T wd st) (k:Gr g w w') (hg:w'.heap[g]? = w.heap[g]?):Rp w' g len T wd st:=by
 obtain⟨V,i,pl,dp,h1,h2,h3⟩:=h.ex;exact⟨⟨V,i,pl,dp,hg.trans h1,h2.on k,h3⟩,h.nv,h.tk,h.tl⟩
theorem Rp.ext (h:Rp w g len T wd st) (k:Ext w w'):Rp w' g len T wd st:=h.gr (Gr.of k) (k.block g h.lt)
theorem Rp.as {r:PS} (h:Rp w g len T wd st) (k:Kp st r) (h0:st.e≠0):Rp w g len T wd r:=by
 obtain⟨V,i,pl,dp,h1,h2,h3,h4,h5⟩:=h.ex;obtain⟨k1,k2⟩:=k.bad h0;exact⟨⟨V,i,pl,dp,by rw[k1];exact h1,h2,h3,fun e=>absurd (k1.symm.trans e) h0,fun _=>(h5 h0).trans k2.symm⟩,k.nv h.nv,h.tk,h.tl⟩
theorem Rp.hd (h:Rp w g len T wd st) (h0:st.e=0) :
  (st.ts = []∧∃ a cap pl,w.heap[g]? = some (rpO (.slice a T.length cap) T.length 0 pl st.op len wd)∧T.length≤cap∧Sl w g (.slice a T.length cap) T) ∨
  ∃ (b off cap i:Nat) (pl:Int) (x:Tk) (r:List Tk),st.ts=x :: r∧i < T.length∧T.drop i=x :: r∧w.heap[g]? = some (rpO (.slice (some ⟨b,off,none⟩) T.length cap) i 0 pl st.op len wd)∧b < g∧T.length≤cap∧cap≤9223372036854775807 ∧
   w.cell? ⟨b,off+i * 4,none⟩=some (.int .i64 x.k)∧w.cell? ⟨b,off+i * 4+1,none⟩=some (.string x.t)∧w.cell? ⟨b,off+i * 4+2,none⟩=some (.int .i64 x.n)∧w.cell? ⟨b,off+i * 4+3,none⟩=some (.int .i64 x.o)∧Sl w g (.slice (some ⟨b,off,none⟩) T.length cap) T:=by
 obtain⟨V,i,pl,dp,h1,h2,h3,h4,h5⟩:=h.ex;obtain⟨h6,rfl⟩:=h4 h0;rw[h0] at h1;by_cases hi:i < T.length
 ·have h2':=h2
  obtain⟨b,off,cap,x,rfl,hb,hcap,hcm,hx,p0,p1,p2,p3⟩:=h2.at i hi;refine Or.inr ⟨b,off,cap,i,pl,x,T.drop (i+1),?_,hi,?_,h1,hb,hcap,hcm,p0,p1,p2,p3,h2'⟩
  ·rw[← h6,List.drop_eq_getElem_cons hi]
   congr 1
   rw[← hx];unfold hdT;rw[List.getElem?_eq_getElem hi];rfl
  ·rw[List.drop_eq_getElem_cons hi]
   congr 1
   rw[← hx];unfold hdT;rw[List.getElem?_eq_getElem hi];rfl
 ·obtain rfl:i=T.length:=by omega
  have h2':=h2;obtain⟨a,cap,rfl,hc,_⟩:=h2;exact Or.inl ⟨by rw[← h6];simp,a,cap,pl,h1,hc,h2'⟩
theorem hd_nil {st:PS} (h:st.ts = []):hdT st.ts 0=tkZ:=by rw[h];rfl
theorem hd_cons {st:PS} {x:Tk} {r:List Tk} (h:st.ts=x :: r):hdT st.ts 0=x:=by rw[h];rfl
theorem kind_r (h:Rp w g len T wd st) (h0:st.e=0):Calls Tryz.prog 62 #[.pointer (some ⟨g,0,none⟩)] w fun e w'=>e = .returned (.int .i64 (hdT st.ts 0).k)∧Ext w w':=by
 have htl:=h.tl;rcases h.hd h0 with⟨hn,a,cap,pl,h1,hc,-⟩ | ⟨b,off,cap,i,pl,x,r,hx,hi,hd,h1,hb,hc,hcm,p0,p1,p2,p3,-⟩
 ·rw[hd_nil hn]
  obtain⟨c0,c1,c2,c3,c4,c5,c6,zf⟩:=rp_c h1;clear h1 h;generalize T.length=N at *
  go_enter Tryz.func62,Tryz.ntmps62
  repeat (go_wp2;go_region)
  go_wp2
  go_ret;exact⟨rfl,by(repeat apply Ext.drew);first | exact Ext.refl _ | exact zu X1⟩
 ·rw[hd_cons hx]
  obtain⟨c0,c1,c2,c3,c4,c5,c6,zf⟩:=rp_c h1;clear h1 h hd hx;generalize T.length=N at *
  go_enter Tryz.func62,Tryz.ntmps62
  repeat (go_wp2;go_region)
  go_wp2
  go_ret;exact⟨rfl,by(repeat apply Ext.drew);first | exact Ext.refl _ | exact zu X1⟩
def PS.isA (st:PS) (s:ByteArray):Bool:=((hdT st.ts 0).k == 6 || (hdT st.ts 0).k == 2) && ((hdT st.ts 0).t.toList == s.toList)
theorem hd_ok (h:Rp w g len T wd st) (h0:st.e=0):TkOk (hdT st.ts 0):=by
 rcases h.hd h0 with⟨hn,_⟩ | ⟨b,off,cap,i,pl,x,r,hx,hi,hd,_⟩
 ·rw[hd_nil hn];exact⟨fun e=>absurd e (by decide),fun e=>absurd e (by decide)⟩
 ·rw[hd_cons hx]
  exact h.tk x (List.mem_of_mem_drop (by rw[hd];exact List.mem_cons_self))
theorem isA_S (h:Rp w g len T wd st) (h0:st.e=0) {s:ByteArray} (hs:wordL s.toList=false):st.isA s=st.isS s:=by
 have ho:=(hd_ok h h0).1;unfold PS.isA PS.isS isT;generalize hdT st.ts 0=x at *;cases hk:(x.k == 6)
 ·cases hk2:(x.k == 2)
  ·rfl
  ·have h2:=ho (by simpa using hk2)
   cases ht:(x.t.toList == s.toList)
   ·rfl
   ·rw[beq_iff_eq] at ht
    rw[← toL,ht,hs] at h2;cases h2
 ·rfl
theorem isA_W (h:Rp w g len T wd st) (h0:st.e=0) {s:ByteArray} (hs:(o2 s.toList || o1 s.toList)=false):st.isA s=st.isW s:=by
 have ho:=(hd_ok h h0).2;unfold PS.isA PS.isW isT;generalize hdT st.ts 0=x at *;cases hk:(x.k == 6)
 ·rfl
 ·have hx:x.k=6:=by simpa using hk
  have h2:=ho hx;have hk2:(x.k == 2)=false:=by rw[hx];rfl
  rw[hk2];cases ht:(x.t.toList == s.toList)
  ·rfl
  ·rw[beq_iff_eq] at ht
   rw[← toL,ht,hs] at h2;cases h2
theorem is_r (h:Rp w g len T wd st) (h0:st.e=0) (s:ByteArray):Calls Tryz.prog 63 #[.pointer (some ⟨g,0,none⟩),.string s] w fun e w'=>e = .returned (.bool (st.isA s))∧Ext w w':=by
 have hk:=kind_r h h0;have htl:=h.tl;unfold PS.isA;rcases h.hd h0 with⟨hn,a,cap,pl,h1,hc,-⟩ | ⟨b,off,cap,i,pl,x,r,hx,hi,hd,h1,hb,hc,hcm,p0,p1,p2,p3,-⟩
 ·rw[hd_nil hn] at hk ⊢
  have HK:Hd (Calls Tryz.prog 62 #[.pointer (some ⟨g,0,none⟩)] w fun e w'=>e = .returned (.int .i64 0)∧Ext w w'):=hk;clear hk;show Calls Tryz.prog 63 #[.pointer (some ⟨g,0,none⟩),.string s] w fun e w'=>e = .returned (.bool false)∧Ext w w';clear h1 h
  go_enter Tryz.func63,Tryz.ntmps63
  repeat (go_wp2_with (go_at_call 62;refine Calls.mono (zu HK) ?_;rintro e w1 ⟨rfl,hw⟩;have X1:=zh hw;clear hw);go_region)
  go_wp2_with (go_at_call 62;refine Calls.mono (zu HK) ?_;rintro e w1 ⟨rfl,hw⟩;have X1:=zh hw;clear hw)
  go_ret;exact⟨rfl,by(repeat apply Ext.drew);first | exact Ext.refl _ | exact zu X1⟩
 ·rw[hd_cons hx] at hk ⊢
  have HK:=zh hk;clear hk;obtain⟨c0,c1,c2,c3,c4,c5,c6,zf⟩:=rp_c h1;clear h1 h hd hx;generalize T.length=N at *;cases hk:(x.k == 6)
  ·cases hk2:(x.k == 2)
   ·go_enter Tryz.func63,Tryz.ntmps63
    repeat (go_wp2_with (go_at_call 62;refine Calls.mono (zu HK) ?_;rintro e w1 ⟨rfl,hw⟩;have c0:=hw.cell c0;have c1:=hw.cell c1;have p1:=hw.cell p1;have X1:=zh hw;clear hw);go_region)
    go_wp2_with (go_at_call 62;refine Calls.mono (zu HK) ?_;rintro e w1 ⟨rfl,hw⟩;have c0:=hw.cell c0;have c1:=hw.cell c1;have p1:=hw.cell p1;have X1:=zh hw;clear hw)
    go_ret;exact⟨rfl,by(repeat apply Ext.drew);first | exact Ext.refl _ | exact zu X1⟩
   ·go_enter Tryz.func63,Tryz.ntmps63
    repeat (go_wp2_with (go_at_call 62;refine Calls.mono (zu HK) ?_;rintro e w1 ⟨rfl,hw⟩;have c0:=hw.cell c0;have c1:=hw.cell c1;have p1:=hw.cell p1;have X1:=zh hw;clear hw);go_region)
    go_wp2_with (go_at_call 62;refine Calls.mono (zu HK) ?_;rintro e w1 ⟨rfl,hw⟩;have c0:=hw.cell c0;have c1:=hw.cell c1;have p1:=hw.cell p1;have X1:=zh hw;clear hw)
    go_ret;exact⟨rfl,by(repeat apply Ext.drew);first | exact Ext.refl _ | exact zu X1⟩
  ·go_enter Tryz.func63,Tryz.ntmps63
   repeat (go_wp2_with (go_at_call 62;refine Calls.mono (zu HK) ?_;rintro e w1 ⟨rfl,hw⟩;have c0:=hw.cell c0;have c1:=hw.cell c1;have p1:=hw.cell p1;have X1:=zh hw;clear hw);go_region)
   go_wp2_with (go_at_call 62;refine Calls.mono (zu HK) ?_;rintro e w1 ⟨rfl,hw⟩;have c0:=hw.cell c0;have c1:=hw.cell c1;have p1:=hw.cell p1;have X1:=zh hw;clear hw)
   go_ret;exact⟨rfl,by(repeat apply Ext.drew);first | exact Ext.refl _ | exact zu X1⟩
end
section
variable {w w':World} {g len:Nat} {T:List Tk} {wd:Int} {st:PS}
theorem Rp.mkFail (h:Rp w g len T wd st) (h0:st.e=0) {c:Int} (hc:c≠0) {W:World} {V:Value} {i:Nat} {dp:Int} (k:Gr g w W) (hV:Sl w g V T) (hi:i≤T.length) (hr:W.heap[g]? = some (rpO V i c (st.here len) dp len wd)):Rp W g len T wd (st.fail len c):=by
 have e1:st.fail len c=⟨[],st.op,st.here len,c⟩:=by unfold PS.fail;rw[if_pos h0]
 rw[e1];exact⟨⟨V,i,_,dp,hr,hV.on k,hi,fun e=>absurd e hc,fun _=>rfl⟩,⟨fun e=>absurd e hc,fun _=>rfl⟩,h.tk,h.tl⟩
abbrev RAns (w:World) (g len:Nat) (T:List Tk) (wd:Int) (v:Value) (r:PS) (e:Ending) (w':World):Prop:=e = .returned v∧Rp w' g len T wd r∧Gr g w w'
theorem fail_r (h:Rp w g len T wd st) (c:Int) (hc:c≠0):Calls Tryz.prog 61 #[.pointer (some ⟨g,0,none⟩),.int .i64 c] w (RAns w g len T wd (.tuple #[]) (st.fail len c)):=by
 have htl:=h.tl;have H:=zh h;by_cases h0:st.e=0
 ·have HM:Hd (∀ {W:World} {V:Value} {i:Nat} {dp:Int},Gr g w W→Sl w g V T→i≤T.length→W.heap[g]? = some (rpO V i c (st.here len) dp len wd)→Rp W g len T wd (st.fail len c)):=fun k hV hi hr=>h.mkFail h0 hc k hV hi hr
  rcases h.hd h0 with⟨hn,a,cap,pl,h1,hcc,hV⟩ | ⟨b,off,cap,i,pl,x,r,hx,hi,hd,h1,hb,hcc,hcm,p0,p1,p2,p3,hV⟩
  ·have hh:st.here len=len:=by unfold PS.here;rw[hn]
   rw[hh] at HM;have HV:=zh hV;have H1:=zh h1;obtain⟨c0,c1,c2,c3,c4,c5,c6,zf⟩:=rp_c h1;clear h1 h hV hh hn hc;generalize hN:T.length=N at *
   go_enter Tryz.func61,Tryz.ntmps61
   repeat (go_wp2;go_region)
   go_wp2
   go_end0
   refine⟨rfl,zu HM ?_ (zu HV) (Nat.le_refl _) (row_set (row_set (zu H1) 2 (.int .i64 c)) 3 (.int .i64 (len:Int))),?_⟩
   all_goals exact((Gr.refl g w).set (p:=⟨g,_,none⟩) (Or.inr rfl) _).set (p:=⟨g,_,none⟩) (Or.inr rfl) _ |>.drew
  ·have hh:st.here len=x.o:=by unfold PS.here;rw[hx]
   rw[hh] at HM;have HV:=zh hV;have H1:=zh h1;obtain⟨c0,c1,c2,c3,c4,c5,c6,zf⟩:=rp_c h1;clear h1 h hV hh hx hd hc;have hbg:(b == g)=false:=by simp;omega
   generalize hN:T.length=N at *
   go_enter Tryz.func61,Tryz.ntmps61
   repeat (go_wp2;go_region)
   go_wp2
   go_end0
   refine⟨rfl,zu HM ?_ (zu HV) (Nat.le_of_lt hi) (row_set (row_set (row_set (zu H1) 2 (.int .i64 c)) 3 (.int .i64 (len:Int))) 3 (.int .i64 (x.o:Int))),?_⟩
   all_goals exact(((Gr.refl g w).set (p:=⟨g,_,none⟩) (Or.inr rfl) _).set (p:=⟨g,_,none⟩) (Or.inr rfl) _ |>.drew.drew.set (p:=⟨g,_,none⟩) (Or.inr rfl) _)
 ·have hR:=h.as (fail_kp st len hc) h0
  have HR:=zh hR;have he2:(st.e == 0)=false:=by simpa using h0
  have he3:(st.e != 0)=true:=by simp[h0]
  obtain⟨V,i,pl,dp,h1,-⟩:=h.ex;obtain⟨c0,c1,c2,c3,c4,c5,c6,zf⟩:=rp_c h1;clear h1 h hR h0
  go_enter Tryz.func61,Tryz.ntmps61
  go_wp2
  go_end0
  exact⟨rfl,zu HR,Gr.refl _ _⟩
end
section
variable {w w':World} {g len:Nat} {T:List Tk} {wd:Int} {st:PS}
theorem Rp.step (h:Rp w g len T wd st) (h0:st.e=0) (hne:st.ts≠[]):∃ i:Nat,w.cell? ⟨g,1,none⟩=some (.int .i64 (i:Int))∧i < 4001 ∧
  ∀ W,Gr g w W→W.heap[g]? = w.heap[g]?→Rp (W.setCell ⟨g,1,none⟩ (.int .i64 ((i:Int)+1))) g len T wd st.next:=by
 obtain⟨V,i,pl,dp,h1,h2,h3,h4,h5⟩:=h.ex;obtain⟨h6,rfl⟩:=h4 h0;have htl:=h.tl;have hi:i < T.length:=by
  apply Nat.lt_of_not_le;intro hle;exact hne (by rw[← h6];exact List.drop_eq_nil_of_le hle)
 refine⟨i,zr h1 1 rfl,by omega,fun W k hg => ?_⟩;have r2:=row_set (hg.trans h1) 1 (.int .i64 ((i:Int)+1));refine⟨⟨V,i+1,pl,st.op,r2,?_,by omega,fun _=>⟨?_,rfl⟩,fun e=>absurd h0 e⟩,(next_kp h.nv).nv h.nv,h.tk,h.tl⟩
 ·exact h2.on (k.set (p:=⟨g,1,none⟩) (Or.inr rfl) _)
 ·show T.drop (i+1)=st.ts.tail
  rw[← h6,← List.drop_one,List.drop_drop]
theorem Rp.shut (h:Rp w g len T wd st) (hop:st.e=0→1≤st.op):∃ dp:Int,w.cell? ⟨g,4,none⟩=some (.int .i64 dp) ∧
  ∀ W,Gr g w W→W.heap[g]? = w.heap[g]?→Rp (W.setCell ⟨g,4,none⟩ (.int .i64 (wrap64 (dp - 1)))) g len T wd st.leave:=by
 obtain⟨V,i,pl,dp,h1,h2,h3,h4,h5⟩:=h.ex;refine⟨dp,zr h1 4 rfl,fun W k hg => ?_⟩;have r2:=row_set (hg.trans h1) 4 (.int .i64 (wrap64 (dp - 1)));refine⟨⟨V,i,pl,wrap64 (dp - 1),r2,h2.on (k.set (p:=⟨g,4,none⟩) (Or.inr rfl) _),h3,fun e=>⟨(h4 e).1,?_⟩,h5⟩,⟨fun e => ?_,h.nv.nil⟩,h.tk,h.tl⟩
 ·rw[(h4 e).2];rfl
 ·have h6:=h.nv.rng e
  have h7:=hop e;show 0≤wrap64 (st.op - 1)∧wrap64 (st.op - 1)≤24;unfold wrap64;omega
def PS.takeA (st:PS) (s:ByteArray):Bool × PS:=if st.e=0∧st.isA s=true then (true,st.next) else (false,st)
theorem isS_nil {st:PS} (h:st.ts = []) (s:ByteArray):st.isS s=false:=by unfold PS.isS isT;rw[hd_nil h];rfl
theorem isW_nil {st:PS} (h:st.ts = []) (s:ByteArray):st.isW s=false:=by unfold PS.isW isT;rw[hd_nil h];rfl
theorem isA_ne {st:PS} {s:ByteArray} (h:st.isA s=true):st.ts≠[]:=by
 intro e;unfold PS.isA at h;rw[hd_nil e] at h;cases h
theorem takeA_S (h:Rp w g len T wd st) {s:ByteArray} (hs:wordL s.toList=false):st.takeA s=st.takeS s:=by
 unfold PS.takeA PS.takeS;by_cases h0:st.e=0
 ·rw[isA_S h h0 hs];simp[h0]
 ·rw[isS_nil (h.nv.nil h0)];simp[h0]
theorem takeA_W (h:Rp w g len T wd st) {s:ByteArray} (hs:(o2 s.toList || o1 s.toList)=false):st.takeA s=st.takeW s:=by
 unfold PS.takeA PS.takeW;by_cases h0:st.e=0
 ·rw[isA_W h h0 hs];simp[h0]
 ·rw[isW_nil (h.nv.nil h0)];simp[h0]
theorem take_a (h:Rp w g len T wd st) (s:ByteArray):Calls Tryz.prog 35 #[.pointer (some ⟨g,0,none⟩),.string s] w (RAns w g len T wd (.bool (st.takeA s).1) (st.takeA s).2):=by
 have H:=zh h;unfold PS.takeA;by_cases h0:st.e=0
 ·have HI:=zh (is_r h h0 s)
  obtain⟨V,i,pl,dp,h1,-⟩:=h.ex;rw[h0] at h1;cases hb:st.isA s
  ·rw[hb] at HI
   rw[if_neg (by simp)];obtain⟨c0,c1,c2,c3,c4,c5,c6,zf⟩:=rp_c h1;clear h1 h
   go_enter Tryz.func35,Tryz.ntmps35
   go_wp2_with (go_at_call 63;refine Calls.mono (zu HI) ?_;rintro e w1 ⟨rfl,hw⟩;have X1:=zh hw;clear hw)
   go_ret;exact⟨rfl,(zu H).ext (zu X1),Gr.of (zu X1)⟩
  ·rw[hb] at HI
   rw[if_pos ⟨h0,rfl⟩];obtain⟨j,cj,hj,hst⟩:=h.step h0 (isA_ne hb);have HS:=zh hst;obtain⟨c0,c1,c2,c3,c4,c5,c6,zf⟩:=rp_c h1;obtain rfl:i=j:=by
    rw[c1] at cj;injection cj with cj;injection cj with _ cj;omega
   have HG:=zh h.lt;have H1:=zh h1;clear h1 h hst cj hb h0
   go_enter Tryz.func35,Tryz.ntmps35
   go_wp2_with (go_at_call 63;refine Calls.mono (zu HI) ?_;rintro e w1 ⟨rfl,hw⟩;have c1:=hw.cell c1;have zf:=rowF (hw.row (zu H1));have X1:=zh hw;clear hw)
   go_ret;exact⟨rfl,zu HS _ (Gr.of (zu X1)) ((zu X1).block g (zu HG)),(Gr.of (zu X1)).set (p:=⟨g,_,none⟩) (Or.inr rfl) _⟩
 ·have he3:(st.e != 0)=true:=by simp[h0]
  have he2:(st.e == 0)=false:=by simpa using h0
  rw[if_neg (by simp[h0])];obtain⟨V,i,pl,dp,h1,-⟩:=h.ex;obtain⟨c0,c1,c2,c3,c4,c5,c6,zf⟩:=rp_c h1;clear h1 h h0
  go_enter Tryz.func35,Tryz.ntmps35
  go_wp2
  go_ret;exact⟨rfl,zu H,Gr.refl _ _⟩
end
section
variable {w w':World} {g len:Nat} {T:List Tk} {wd:Int} {st:PS}
def PS.wantA (st:PS) (len:Nat) (s:ByteArray):PS:=if (st.takeA s).1 then (st.takeA s).2 else st.fail len 10
theorem wantA_S (h:Rp w g len T wd st) {s:ByteArray} (hs:wordL s.toList=false):st.wantA len s=st.sign len s:=by
 unfold PS.wantA;rw[takeA_S h hs];unfold PS.takeS PS.sign;cases st.isS s <;> rfl
theorem wantA_W (h:Rp w g len T wd st) {s:ByteArray} (hs:(o2 s.toList || o1 s.toList)=false):st.wantA len s=st.word len s:=by
 unfold PS.wantA;rw[takeA_W h hs];unfold PS.takeW PS.word;cases st.isW s <;> rfl
theorem want_a (h:Rp w g len T wd st) (s:ByteArray):Calls Tryz.prog 33 #[.pointer (some ⟨g,0,none⟩),.string s] w (RAns w g len T wd (.tuple #[]) (st.wantA len s)):=by
 have HT:=zh (take_a h s);have HF:=zh (fun (W:World) (x:Rp W g len T wd st)=>fail_r x 10 (by decide));unfold PS.wantA;have hs2:(st.takeA s).1=false→(st.takeA s).2=st:=by
  unfold PS.takeA
  split
  ·intro e;cases e
  ·intro _;rfl
 cases hb:(st.takeA s).1
 ·rw[hb,hs2 hb] at HT
  rw[if_neg (by decide)];clear h hs2 hb
  go_enter Tryz.func33,Tryz.ntmps33
  go_wp2_with (first
   | (go_at_call 35;refine Calls.mono (zu HT) ?_;rintro e w1 ⟨rfl,hr,hw⟩;have X1:=zh hw;have R1:=zh hr;clear hw hr)
   | (have T9:=zu R1;go_at_call 61;refine Calls.mono (zu HF _ T9) ?_;rintro e w2 ⟨rfl,hr,hw⟩;have X2:=zh ((zu X1).trans hw);have R2:=zh hr;clear hw hr T9))
  go_end0
  exact⟨rfl,zu R2,zu X2⟩
 ·rw[hb] at HT
  rw[if_pos rfl];clear h hs2 hb
  go_enter Tryz.func33,Tryz.ntmps33
  go_wp2_with (first
   | (go_at_call 35;refine Calls.mono (zu HT) ?_;rintro e w1 ⟨rfl,hr,hw⟩;have X1:=zh hw;have R1:=zh hr;clear hw hr))
  go_end0
  exact⟨rfl,zu R1,zu X1⟩
theorem want_s (h:Rp w g len T wd st) (s:ByteArray) (hs:wordL s.toList=false):Calls Tryz.prog 33 #[.pointer (some ⟨g,0,none⟩),.string s] w (RAns w g len T wd (.tuple #[]) (st.sign len s)):=by
 rw[← wantA_S h hs];exact want_a h s
theorem want_w (h:Rp w g len T wd st) (s:ByteArray) (hs:(o2 s.toList || o1 s.toList)=false):Calls Tryz.prog 33 #[.pointer (some ⟨g,0,none⟩),.string s] w (RAns w g len T wd (.tuple #[]) (st.word len s)):=by
 rw[← wantA_W h hs];exact want_a h s
theorem take_s (h:Rp w g len T wd st) (s:ByteArray) (hs:wordL s.toList=false):Calls Tryz.prog 35 #[.pointer (some ⟨g,0,none⟩),.string s] w (RAns w g len T wd (.bool (st.takeS s).1) (st.takeS s).2):=by
 rw[← takeA_S h hs];exact take_a h s
theorem take_w (h:Rp w g len T wd st) (s:ByteArray) (hs:(o2 s.toList || o1 s.toList)=false):Calls Tryz.prog 35 #[.pointer (some ⟨g,0,none⟩),.string s] w (RAns w g len T wd (.bool (st.takeW s).1) (st.takeW s).2):=by
 rw[← takeA_W h hs];exact take_a h s
theorem Rp.open (h:Rp w g len T wd st) (h0:st.e=0) (hop:st.op < 24):st.enter len=st.up∧w.cell? ⟨g,4,none⟩=some (.int .i64 st.op) ∧
  ∀ W,Gr g w W→W.heap[g]? = w.heap[g]?→Rp (W.setCell ⟨g,4,none⟩ (.int .i64 (st.op+1))) g len T wd (st.enter len):=by
 obtain⟨V,i,pl,dp,h1,h2,h3,h4,h5⟩:=h.ex;obtain⟨h6,rfl⟩:=h4 h0;have hr:=h.nv.rng h0;have hw:wrap64 (st.op+1)=st.op+1:=by unfold wrap64;omega
 have e:st.enter len=st.up:=by unfold PS.enter;rw[hw,if_neg (by omega)]
 refine⟨e,zr h1 4 rfl,fun W k hg => ?_⟩;have r2:=row_set (hg.trans h1) 4 (.int .i64 (st.op+1));have nv:=enter_nv h.nv len;rw[e] at nv ⊢;refine⟨⟨V,i,pl,st.op+1,r2,h2.on (k.set (p:=⟨g,4,none⟩) (Or.inr rfl) _),h3,fun _=>⟨h6,hw.symm⟩,h5⟩,nv,h.tk,h.tl⟩
theorem in_r (h:Rp w g len T wd st):Calls Tryz.prog 64 #[.pointer (some ⟨g,0,none⟩)] w (RAns w g len T wd (.bool ((st.enter len).e == 0)) (st.enter len)):=by
 by_cases h0:st.e=0
 ·obtain⟨hr1,hr2⟩:=h.nv.rng h0
  obtain⟨V,i,pl,dp,h1,h2,h3,h4,h5⟩:=h.ex;have hdp:=(h4 h0).2;rw[h0,hdp] at h1;by_cases hop:st.op < 24
  ·obtain⟨e,ce,hst⟩:=h.open h0 hop
   have HS:=zh (hst w (Gr.refl _ _) rfl);have he:((st.enter len).e == 0)=true:=by rw[e];show (st.e == 0)=true;rw[h0];rfl
   rw[he];obtain⟨c0,c1,c2,c3,c4,c5,c6,zf⟩:=rp_c h1;clear h1 h hst h2 h4 h5 he e ce hdp h0
   go_enter Tryz.func64,Tryz.ntmps64
   go_wp2
   go_ret;exact⟨rfl,zu HS,(Gr.refl _ _).set (p:=⟨g,_,none⟩) (Or.inr rfl) _⟩
  ·have HF:=zh (fail_r h 21 (by decide))
   have hfe:st.enter len=st.up.fail len 21:=by unfold PS.enter;rw[if_pos (by unfold wrap64;omega)]
   have he2:Hd (∀ W,Rp W g len T wd (st.fail len 21)→Rp W g len T wd (st.enter len)):=fun W x=>by
    rw[hfe];obtain⟨V,i,pl,dp,k1,k2,k3,k4,k5⟩:=x.ex;have e1:(st.fail len 21)=⟨[],st.op,st.here len,21⟩:=by unfold PS.fail;rw[if_pos h0]
    have e2:(st.up.fail len 21)=⟨[],st.up.op,st.here len,21⟩:=by unfold PS.fail;rw[if_pos (show st.up.e=0 from h0)];rfl
    rw[e1] at k1 k5;rw[e2];exact⟨⟨V,i,pl,dp,k1,k2,k3,fun e=>absurd e (show ¬ (21:Int)=0 by decide),k5⟩,⟨fun e=>absurd e (show ¬ (21:Int)=0 by decide),fun _=>rfl⟩,x.tk,x.tl⟩
   have he:((st.enter len).e == 0)=false:=by
    rw[hfe];have e2:(st.up.fail len 21)=⟨[],st.up.op,st.here len,21⟩:=by unfold PS.fail;rw[if_pos (show st.up.e=0 from h0)];rfl
    rw[e2];rfl
   rw[he];obtain⟨c0,c1,c2,c3,c4,c5,c6,zf⟩:=rp_c h1;clear h1 h h2 h4 h5 he hfe hdp h0
   go_enter Tryz.func64,Tryz.ntmps64
   go_wp2_with (go_at_call 61;refine Calls.mono (zu HF) ?_;rintro e w2 ⟨rfl,hr,hw⟩;have X2:=zh hw;have R2:=zh hr;clear hw hr)
   go_ret;exact⟨rfl,zu he2 _ (zu R2),zu X2⟩
 ·have he3:(st.e != 0)=true:=by simp[h0]
  have he2:(st.e == 0)=false:=by simpa using h0
  have eb:=enter_bad len h0;have hR:Rp w g len T wd (st.enter len):=by
   obtain⟨V,i,pl,dp,k1,k2,k3,k4,k5⟩:=h.ex;exact⟨⟨V,i,pl,dp,by rw[eb.1];exact k1,k2,k3,fun e=>absurd (eb.1.symm.trans e) h0,fun _=>(k5 h0).trans eb.2.symm⟩,enter_nv h.nv len,h.tk,h.tl⟩
  have HR:=zh hR;have he:((st.enter len).e == 0)=false:=by rw[eb.1];exact he2
  rw[he];obtain⟨V,i,pl,dp,h1,-⟩:=h.ex;obtain⟨c0,c1,c2,c3,c4,c5,c6,zf⟩:=rp_c h1;clear h1 h h0 hR eb he
  go_enter Tryz.func64,Tryz.ntmps64
  go_wp2
  go_ret;exact⟨rfl,zu HR,Gr.refl _ _⟩
end
end Go.Proofs.YtjnpehohialmbaaGreat
