/- The machine with a stack: what a step does,in plain words. -/
import Derived.Test.YtjnpehohialmbaaGreatZs41
set_option linter.unusedSimpArgs false
set_option linter.unusedVariables false
set_option maxRecDepth 10000
set_option maxHeartbeats 1000000
namespace Go.Proofs.YtjnpehohialmbaaGreat
open Go.RowKit
namespace V
variable {w w' w2:World} {h:SHd}
def flV:List SFr→List PV
 | [] => []
 | c :: r=>flV r++c.vs
def clR:List SFr→List (Nat × Nat × Nat)
 | [] => []
 | c :: r=>clR r++[(c.fn,c.pc,(flV r).length)]
theorem flV_len:∀ l:List SFr,(flV l).length=sLen l
 | []=>rfl
 | c :: r=>by rw[flV,List.length_append,flV_len r,sLen]
theorem clR_len:∀ l:List SFr,(clR l).length=l.length
 | []=>rfl
 | c :: r=>by rw[clR,List.length_append,clR_len r];rfl
def MR (h:SHd) (w:World) (cs:List (Nat × Nat × Nat)) (vs:List PV) (fu:Int) (l:List SEv):Prop:=∃ ads evs d,SB h w cs ads fu l.length evs d∧PtL h.L w ads vs∧EvR l evs
def StepR (h:SHd) (w:World) (s:SMc) (e:Int) (en:Ending) (w':World):Prop :=
 SvF5 h.L w w'∧((e = -1∧en = .returned (.int .i64 0)∧MR h w' [] (flV s.fr) s.fu s.ev)∨(e≠-1∧en = .returned (.int .i64 e)∧MR h w' (clR s.fr) (flV s.fr) s.fu s.ev))
def sStp (fns:List KF) (s:SMc):Option (SMc × Int):=if 900000 < sLen s.fr∨900000 < s.fr.length∨900000 < s.ev.length∨900000 < s.fu then none else sStep fns s
def sGo (fns:List KF):Nat→SMc→Option (SMc × Int)
 | 0,_=>none
 | k+1,s=>match sStp fns s with
  | none=>none
  | some (s',e)=>if e=0 then sGo fns k s' else some (s',e)
theorem PtL.repl {L:Nat} {ads:List Addr} {vs:List PV} {a:Addr} {p:PV} (x:PtL L w ads vs) (y:PtV L w a p):∀ m,PtL L w (ads++List.replicate m a) (vs++List.replicate m p)
 | 0=>by simpa using x
 | m+1=>by
  rw[List.replicate_succ',List.replicate_succ',← List.append_assoc,← List.append_assoc];exact(x.repl y m).snoc y
theorem step_m (fns:List KF) (s s':SMc) (e:Int) (hs:sStp fns s=some (s',e)) (hfl:h.fl=fns.length) (hp:RepP w (fun b=>b < h.L) h.fa fns) (hna:PtV h.L w h.na nilP) (hB:∀ f ∈ fns,f.code.length≤1000000) (hN:fns.length≤1000000) (x:MR h w (clR s.fr) (flV s.fr) s.fu s.ev):Calls Tryz.prog 23 #[.pointer (some ⟨h.g,0,none⟩)] w (StepR h w s' e):=by
 obtain⟨fr,fu,ev⟩:=s;obtain⟨ads,evs,d,x,hpt,hev⟩:=x;unfold sStp at hs
 split at hs
 ·cases hs
 rename_i hbd9;simp only at hbd9;unfold sStep at hs;cases fr with
 | nil=>cases hs
 | cons c r =>
 simp only at hs x hpt;have hfu:fu≤1000000:=by omega
 split at hs
 ·cases hs
 rename_i hbd;have hbd1:sLen (c :: r)≤1000000:=by omega
 have hbd2:(c :: r).length≤1000000:=by omega
 have hbd3:ev.length≤1000000:=by omega
 clear hbd;cases hf:fns[c.fn]? with
 | none=>rw[hf] at hs;cases hs
 | some f =>
 rw[hf] at hs;simp only at hs;cases hi:f.code[c.pc]? with
 | none=>rw[hi] at hs;cases hs
 | some i =>
 rw[hi] at hs;simp only at hs;obtain⟨fn,pc,vs⟩:=c;obtain⟨op,a,b⟩:=i;simp only at hf hi;have hbs:(clR r).length≤1000000:=by rw[clR_len];simp at hbd2;omega
 have hpc:pc≤1000000:=by
  have h1:=(List.getElem?_eq_some_iff.1 hi).1;have h2:=hB f (List.mem_of_getElem? hf);omega
 have hal:ads.length=(flV r).length+vs.length:=by rw[hpt.1,flV,List.length_append]
 have hal2:ads.length≤1000000:=by rw[hpt.1,flV_len];exact hbd1
 unfold sIns at hs;simp only at hs;by_cases o1:op=1
 ·rw[if_pos o1] at hs
  subst o1;cases hv:f.cs[a.toNat]? with
  | none=>rw[hv] at hs;cases hs
  | some v =>
  rw[hv] at hs;simp only at hs
  split at hs
  ·rename_i ha
   injection hs with hs;injection hs with h1 h2;subst h1 h2;refine Calls.mono (st_const fns f a b hf hi hfl hp x hbs hpc a.toNat (by omega) v hv hal2) ?_;rintro e w' ⟨rfl,⟨ad,va,vc,hs,hpv⟩,hF⟩;refine⟨hF,Or.inr ⟨by decide,rfl,_,_,_,hs,?_,hev⟩⟩;rw[flV,← List.append_assoc];exact(hpt.on hF).snoc hpv
  ·cases hs
 rw[if_neg o1] at hs;by_cases o2:op=2
 ·rw[if_pos o2] at hs
  subst o2;cases hv:vs[a.toNat]? with
  | none=>rw[hv] at hs;cases hs
  | some v =>
  rw[hv] at hs;simp only at hs
  split at hs
  ·rename_i ha
   injection hs with hs;injection hs with h1 h2;subst h1 h2;obtain⟨ad,had,hpv⟩:=hpt.at (i:=(flV r).length+a.toNat) (p:=v) (by rw[flV,List.getElem?_append_right (by omega),Nat.add_sub_cancel_left];exact hv);refine Calls.mono (st_load fns f a b hf hi hfl hp x hbs hpc a.toNat (by omega) ad had hal2) ?_;rintro e w' ⟨rfl,⟨va,vc,hs⟩,hF⟩;refine⟨hF,Or.inr ⟨by decide,rfl,_,_,_,hs,?_,hev⟩⟩;rw[flV,← List.append_assoc];exact(hpt.on hF).snoc (hpv.on hF)
  ·cases hs
 rw[if_neg o2] at hs;by_cases o3:op=3
 ·rw[if_pos o3] at hs
  subst o3;cases hv:sPop vs with
  | none=>rw[hv] at hs;cases hs
  | some uv =>
  obtain⟨us,v⟩:=uv;have e1:=sPop_some hv;rw[hv] at hs;simp only at hs
  split at hs
  ·rename_i ha
   injection hs with hs;injection hs with h1 h2;subst h1 h2;rw[flV,e1,← List.append_assoc] at hpt;obtain⟨us',ad,e2,hu,hpv⟩:=hpt.unsnoc;have hul:us'.length=(flV r).length+us.length:=by rw[hu.1,List.length_append]
   refine Calls.mono (st_store fns f a b hf hi hfl hp x hbs hpc a.toNat (by omega) us' ad e2 (by rw[e2] at hal2;simp at hal2;omega) (by omega)) ?_;rintro e w' ⟨rfl,hs,hF⟩;refine⟨hF,Or.inr ⟨by decide,rfl,_,_,_,hs,?_,hev⟩⟩;have h9:=(hu.on hF).set ((flV r).length+a.toNat) (hpv.on hF);rw[List.set_append_right _ _ (by omega),Nat.add_sub_cancel_left] at h9;exact h9
  ·cases hs
 rw[if_neg o3] at hs;by_cases o4:op=4
 ·rw[if_pos o4] at hs
  subst o4;cases hv:sPop vs with
  | none=>rw[hv] at hs;cases hs
  | some uv =>
  obtain⟨us,v⟩:=uv;have e1:=sPop_some hv;rw[hv] at hs;simp only at hs;injection hs with hs;injection hs with h1 h2;subst h1 h2;rw[flV,e1,← List.append_assoc] at hpt;obtain⟨us',ad,e2,hu,hpv⟩:=hpt.unsnoc;refine Calls.mono (st_pop fns f a b hf hi hfl hp x hbs hpc us' ad e2 (by rw[e2] at hal2;simp at hal2;omega)) ?_;rintro e w' ⟨rfl,hs,hF⟩;exact⟨hF,Or.inr ⟨by decide,rfl,_,_,_,hs,hu.on hF,hev⟩⟩
 rw[if_neg o4] at hs;by_cases o5:op=5
 ·rw[if_pos o5] at hs
  subst o5;cases hv:sPop vs with
  | none=>rw[hv] at hs;cases hs
  | some uv =>
  obtain⟨us,q⟩:=uv;have e1:=sPop_some hv;rw[hv] at hs;simp only at hs;cases hv2:sPop us with
  | none=>rw[hv2] at hs;cases hs
  | some uv2 =>
  obtain⟨ts,p⟩:=uv2;have e3:=sPop_some hv2;rw[hv2] at hs;simp only at hs;cases hbn:sBin a p q with
  | none=>rw[hbn] at hs;cases hs
  | some v =>
  rw[hbn] at hs;simp only at hs;injection hs with hs;injection hs with h1 h2;subst h1 h2;rw[flV,e1,← List.append_assoc,e3,← List.append_assoc] at hpt;obtain⟨us1,ad2,e2,hu1,hq⟩:=hpt.unsnoc;obtain⟨us2,ad1,e4,hu2,hp1⟩:=hu1.unsnoc;rw[e4] at e2;refine Calls.mono (st_bin fns f a b hf hi hfl hp x hbs hpc us2 ad1 ad2 e2 (by rw[e2] at hal;simp at hal;simp only[sLen] at hbd9;rw[← flV_len] at hbd9;omega) p q v hbn hp1 hq) ?_;rintro e w' ⟨rfl,⟨ad,va,vc,hs,hpv⟩,hF⟩;refine⟨hF,Or.inr ⟨by decide,rfl,_,_,_,hs,?_,hev⟩⟩;rw[flV,← List.append_assoc];exact(hu2.on hF).snoc hpv
 rw[if_neg o5] at hs;by_cases o6:op=6
 ·rw[if_pos o6] at hs
  subst o6;cases hv:sPop vs with
  | none=>rw[hv] at hs;cases hs
  | some uv =>
  obtain⟨us,p⟩:=uv;have e1:=sPop_some hv;rw[hv] at hs;simp only at hs
  split at hs
  ·rename_i ha
   injection hs with hs;injection hs with h1 h2;subst h1 h2;rw[flV,e1,← List.append_assoc] at hpt;obtain⟨us1,ad1,e2,hu1,hp1⟩:=hpt.unsnoc;refine Calls.mono (st_un fns f a b hf hi hfl hp x hbs hpc ha us1 ad1 e2 (by rw[e2] at hal;simp at hal;simp only[sLen] at hbd9;rw[← flV_len] at hbd9;omega) p hp1) ?_;rintro e w' ⟨rfl,⟨ad,va,vc,hs,hpv⟩,hF⟩;refine⟨hF,Or.inr ⟨by decide,rfl,_,_,_,hs,?_,hev⟩⟩;rw[flV,← List.append_assoc];exact(hu1.on hF).snoc hpv
  ·cases hs
 rw[if_neg o6] at hs;by_cases o7:op=7
 ·rw[if_pos o7] at hs
  subst o7
  split at hs
  ·rename_i ha
   injection hs with hs;injection hs with h1 h2;subst h1 h2;refine Calls.mono (st_jump fns f a b hf hi hfl hp x hbs hpc a.toNat (by omega)) ?_;rintro e w' ⟨rfl,hs,hF⟩;exact⟨hF,Or.inr ⟨by decide,rfl,_,_,_,hs,hpt.on hF,hev⟩⟩
  ·cases hs
 rw[if_neg o7] at hs;by_cases o8:op=8
 ·rw[if_pos o8] at hs
  subst o8;cases hv:sPop vs with
  | none=>rw[hv] at hs;cases hs
  | some uv =>
  obtain⟨us,v⟩:=uv;have e1:=sPop_some hv;rw[hv] at hs;simp only at hs
  split at hs
  ·rename_i ha
   rw[flV,e1,← List.append_assoc] at hpt;obtain⟨us',ad,e2,hu,hpv⟩:=hpt.unsnoc;have hul:us'.length≤1000000:=by rw[e2] at hal2;simp at hal2;omega
   injection hs with hs;injection hs with h1 h2;subst h1 h2;cases ht:truev (tk v) with
   | true =>
    refine Calls.mono (st_brz1 fns f a b hf hi hfl hp x hbs hpc a.toNat (by omega) us' ad e2 hul v hpv ht) ?_;rintro e w' ⟨rfl,hs,hF⟩;exact⟨hF,Or.inr ⟨by decide,rfl,_,_,_,hs,hu.on hF,hev⟩⟩
   | false =>
    refine Calls.mono (st_brz0 fns f a b hf hi hfl hp x hbs hpc a.toNat (by omega) us' ad e2 hul v hpv ht) ?_;rintro e w' ⟨rfl,hs,hF⟩;exact⟨hF,Or.inr ⟨by decide,rfl,_,_,_,hs,hu.on hF,hev⟩⟩
  ·cases hs
 rw[if_neg o8] at hs;by_cases o9:op=9
 ·rw[if_pos o9] at hs
  subst o9;cases hk:fns[a.toNat]? with
  | none=>rw[hk] at hs;cases hs
  | some kf =>
  rw[hk] at hs;simp only at hs
  split at hs
  ·rename_i ha
   injection hs with hs;injection hs with h1 h2;subst h1 h2;have hkl:=(List.getElem?_eq_some_iff.1 hk).1;simp only[List.length_cons] at hbd9;have hvl:(vs.take (vs.length - kf.ps.toNat)).length=vs.length - kf.ps.toNat:=by rw[List.length_take];omega
   refine Calls.mono (st_call fns f a b hf hi hfl hp x hbs hpc a.toNat (by omega) kf hk hal2 (by omega) kf.ps.toNat (kf.lc - kf.ps).toNat ((flV r).length+(vs.length - kf.ps.toNat)) (by omega) (by omega) (by omega) (by omega) (by omega) (by rw[clR_len];omega)) ?_;rintro e w' ⟨rfl,⟨ca,cc,va,vc,hs⟩,hF⟩;have ej:(flV r).length+(vs.length - kf.ps.toNat)=(flV (⟨fn,pc+1,vs.take (vs.length - kf.ps.toNat)⟩ :: r)).length:=by rw[flV,List.length_append,hvl]
   rw[ej] at hs;refine⟨hF,Or.inr ⟨by decide,rfl,_,_,_,hs,?_,hev⟩⟩;have h9:=(hpt.on hF).repl (hna.on hF) (kf.lc - kf.ps).toNat;have e9:flV (⟨a.toNat,0,vs.drop (vs.length - kf.ps.toNat)++List.replicate (kf.lc - kf.ps).toNat nilP⟩ :: ⟨fn,pc+1,vs.take (vs.length - kf.ps.toNat)⟩ :: r)=flV (⟨fn,pc,vs⟩ :: r)++List.replicate (kf.lc - kf.ps).toNat nilP:=by
    simp only[flV];rw[← List.append_assoc,List.append_assoc (flV r),List.take_append_drop]
   rw[e9];exact h9
  ·cases hs
 rw[if_neg o9] at hs;by_cases o10:op=10
 ·rw[if_pos o10] at hs
  subst o10;cases hv:sPop vs with
  | none=>rw[hv] at hs;cases hs
  | some uv =>
  obtain⟨us,v⟩:=uv;have e1:=sPop_some hv;rw[hv] at hs;simp only at hs;rw[flV,e1,← List.append_assoc] at hpt;obtain⟨us',ad,e2,hu,hpv⟩:=hpt.unsnoc;have hul:us'.length≤1000000:=by rw[e2] at hal2;simp at hal2;omega
  have hul2:us'.length=(flV r).length+us.length:=by rw[hu.1,List.length_append]
  have C:=st_ret fns f a b hf hi hfl hp x hbs hpc us' ad e2 hul (by omega);cases r with
  | nil =>
   simp only at hs;injection hs with hs;injection hs with h1 h2;subst h1 h2;refine Calls.mono C ?_;rintro e w' ⟨rfl,⟨va,vc,hs⟩,hF⟩;exact⟨hF,Or.inl ⟨rfl,rfl,_,_,_,hs,(PtL.nil (L:=h.L) (w:=w')).snoc (hpv.on hF),hev⟩⟩
  | cons g q =>
   simp only at hs;injection hs with hs;injection hs with h1 h2;subst h1 h2;refine Calls.mono C ?_;rintro e w' ⟨rfl,⟨va,vc,hs⟩,hF⟩;refine⟨hF,Or.inr ⟨by decide,rfl,_,_,_,hs,?_,hev⟩⟩;have h9:=((hu.on hF).take (flV (g :: q)).length).snoc (hpv.on hF);rw[List.take_left] at h9;have e9:flV (⟨g.fn,g.pc,g.vs++[v]⟩ :: q)=flV (g :: q)++[v]:=by simp only[flV];rw[List.append_assoc]
   show PtL h.L w' _ (flV (⟨g.fn,g.pc,g.vs++[v]⟩ :: q));rw[e9];exact h9
 rw[if_neg o10] at hs;by_cases o11:op=11
 ·rw[if_pos o11] at hs
  subst o11;cases hv:sPop vs with
  | none=>rw[hv] at hs;cases hs
  | some uv =>
  obtain⟨us,v⟩:=uv;have e1:=sPop_some hv;rw[hv] at hs;simp only at hs;rw[flV,e1,← List.append_assoc] at hpt;obtain⟨us',ad,e2,hu,hpv⟩:=hpt.unsnoc;have hul:us'.length≤1000000:=by rw[e2] at hal2;simp at hal2;omega
  refine Calls.mono (st_out fns f a b hf hi hfl hp x hbs hpc ev rfl hev hfu hbd3 us' ad e2 hul v hpv) ?_;rintro e w' ⟨hF,hT⟩;unfold SMc.tell at hs;simp only at hs;rcases hT with⟨h1,rfl,xs,h2,h3⟩ | ⟨h1,rfl,ea,ec,xs,h2,h3⟩
  ·rw[if_pos h1] at hs
   injection hs with hs;injection hs with h4 h5;subst h4 h5;exact⟨hF,Or.inr ⟨by decide,rfl,_,_,_,h3,hu.on hF,h2⟩⟩
  ·rw[if_neg (by omega)] at hs
   injection hs with hs;injection hs with h4 h5;subst h4 h5;exact⟨hF,Or.inr ⟨by decide,rfl,_,_,_,h3,hu.on hF,h2⟩⟩
 rw[if_neg o11] at hs;by_cases o12:op=12
 ·rw[if_pos o12] at hs
  subst o12;refine Calls.mono (st_tick fns f a b hf hi hfl hp x hbs hpc ev rfl hev hfu hbd3) ?_;rintro e w' ⟨hF,hT⟩;unfold SMc.tell at hs;simp only at hs;rcases hT with⟨h1,rfl,xs,h2,h3⟩ | ⟨h1,rfl,ea,ec,xs,h2,h3⟩
  ·rw[if_pos h1] at hs
   injection hs with hs;injection hs with h4 h5;subst h4 h5;exact⟨hF,Or.inr ⟨by decide,rfl,_,_,_,h3,hpt.on hF,h2⟩⟩
  ·rw[if_neg (by omega)] at hs
   injection hs with hs;injection hs with h4 h5;subst h4 h5;exact⟨hF,Or.inr ⟨by decide,rfl,_,_,_,h3,hpt.on hF,h2⟩⟩
 rw[if_neg o12] at hs;cases hs
end V
namespace V
variable {w w' w2:World} {h:SHd}
theorem fr34S (T:Array Value) (h:T.size=34):∃ u:Nat→Value,T = #[u 0,u 1,u 2,u 3,u 4,u 5,u 6,u 7,u 8,u 9,u 10,u 11,u 12,u 13,u 14,u 15,u 16,u 17,u 18,u 19,u 20,u 21,u 22,u 23,u 24,u 25,u 26,u 27,u 28,u 29,u 30,u 31,u 32,u 33]:=by
 refine⟨fun i=>T.getD i undef,?_⟩;have e:T=((List.range T.size).map (fun i=>T.getD i undef)).toArray:=by
  apply Array.ext
  ·simp
  ·intro i h1 h2
   simp[h1]
 rw[h] at e;exact e
def EvAt (w:World) (a:Option Addr) (l:List SEv):Prop:=∃ evs,EvR l evs∧(evs = []∨∃ (b:Nat) (cur:Array Value),a=some ⟨b,0,none⟩∧w.heap[b]? = some (.cells cur 40 (0,0))∧∀ (j:Nat) (u:Value),evs[j]? = some u→w.cell? ⟨b,j,none⟩=some u)
theorem SB.evAt {cs:List (Nat × Nat × Nat)} {ads:List Addr} {fu:Int} {l:List SEv} {evs:List Value} {d:SAd} (x:SB h w cs ads fu l.length evs d) (hev:EvR l evs):EvAt w d.ea l:=by
 refine⟨evs,hev,?_⟩;rcases id x.oe.2 with⟨e,e0⟩ | ⟨b,cap,cur,e,hb,hg,hn2,hm,_⟩
 ·have h1:=x.oe.1
  rw[e0,Nat.zero_mul] at h1;exact Or.inl (List.length_eq_zero_iff.1 h1)
 ·injection e with e1 e2 e3
  refine Or.inr ⟨b,cur,e1,hg,fun j u hj => ?_⟩;have:=x.oe.cells (g:=b) (by rw[e1];rfl) j u hj;have e:(⟨b,0,none⟩:Addr).add j=⟨b,j,none⟩:=by cases j <;> simp[Addr.add]
  rw[e] at this;exact this
theorem EvAt.keep {l:List SEv} {a:Option Addr} (x:EvAt w a l) (k:∀ (b:Nat) (cur:Array Value),w.heap[b]? = some (.cells cur 40 (0,0))→w'.heap[b]? = w.heap[b]?):EvAt w' a l:=by
 obtain⟨evs,h1,h2⟩:=x;refine⟨evs,h1,?_⟩;rcases h2 with h2 | ⟨b,cur,e,hb,hc⟩
 ·exact Or.inl h2
 ·exact Or.inr ⟨b,cur,e,(k b cur hb).trans hb,fun j u hj=>by rw[World.cell?_of_block (w:=w) (k b cur hb)];exact hc j u hj⟩
theorem EvAt.on {l:List SEv} {a:Option Addr} (x:EvAt w a l) (k:Ext w w'):EvAt w' a l:=x.keep fun b cur hb=>k.block b (Array.getElem?_eq_some_iff.1 hb).1
abbrev set7 (w:World) (b:Nat) (c0 c1 c2 c3 c4 c5 c6:Value):World:=((((((w.setCell ⟨b,0,none⟩ c0).setCell ⟨b,1,none⟩ c1).setCell ⟨b,2,none⟩ c2).setCell ⟨b,3,none⟩ c3).setCell ⟨b,4,none⟩ c4).setCell ⟨b,5,none⟩ c5).setCell ⟨b,6,none⟩ c6
theorem set7_row {b:Nat} {d0 d1 d2 d3 d4 d5 d6:Value} {t:TypeId} (hr:w.heap[b]? = some (.cells #[d0,d1,d2,d3,d4,d5,d6] t (0,0))) (c0 c1 c2 c3 c4 c5 c6:Value):(((((((w.setCell ⟨b,0,none⟩ c0).setCell ⟨b,1,none⟩ c1).setCell ⟨b,2,none⟩ c2).setCell ⟨b,3,none⟩ c3).setCell ⟨b,4,none⟩ c4).setCell ⟨b,5,none⟩ c5).setCell ⟨b,6,none⟩ c6).heap[b]? = some (.cells #[c0,c1,c2,c3,c4,c5,c6] t (0,0)):=by
 have h0:(w.setCell ⟨b,0,none⟩ c0).heap[b]? = some (.cells #[c0,d1,d2,d3,d4,d5,d6] t (0,0)):=row_set hr 0 c0;generalize w.setCell ⟨b,0,none⟩ c0=w1 at h0 ⊢;have h1:(w1.setCell ⟨b,1,none⟩ c1).heap[b]? = some (.cells #[c0,c1,d2,d3,d4,d5,d6] t (0,0)):=row_set h0 1 c1;generalize w1.setCell ⟨b,1,none⟩ c1=w2 at h1 ⊢;have h2:(w2.setCell ⟨b,2,none⟩ c2).heap[b]? = some (.cells #[c0,c1,c2,d3,d4,d5,d6] t (0,0)):=row_set h1 2 c2;generalize w2.setCell ⟨b,2,none⟩ c2=w3 at h2 ⊢;have h3:(w3.setCell ⟨b,3,none⟩ c3).heap[b]? = some (.cells #[c0,c1,c2,c3,d4,d5,d6] t (0,0)):=row_set h2 3 c3;generalize w3.setCell ⟨b,3,none⟩ c3=w4 at h3 ⊢;have h4:(w4.setCell ⟨b,4,none⟩ c4).heap[b]? = some (.cells #[c0,c1,c2,c3,c4,d5,d6] t (0,0)):=row_set h3 4 c4;generalize w4.setCell ⟨b,4,none⟩ c4=w5 at h4 ⊢
 have h5:(w5.setCell ⟨b,5,none⟩ c5).heap[b]? = some (.cells #[c0,c1,c2,c3,c4,c5,d6] t (0,0)):=row_set h4 5 c5;generalize w5.setCell ⟨b,5,none⟩ c5=w6 at h5 ⊢;exact row_set h5 6 c6
theorem set7_off {b q:Nat} (hq:q≠b) (c0 c1 c2 c3 c4 c5 c6:Value):(set7 w b c0 c1 c2 c3 c4 c5 c6).heap[q]? = w.heap[q]?:=by
 unfold set7;rw[Below.heap_setCell _ _ _ _ hq,Below.heap_setCell _ _ _ _ hq,Below.heap_setCell _ _ _ _ hq,Below.heap_setCell _ _ _ _ hq,Below.heap_setCell _ _ _ _ hq,Below.heap_setCell _ _ _ _ hq,Below.heap_setCell _ _ _ _ hq]
theorem SvF5.set7 {L b:Nat} (x:SvF5 L w w') (hb:w.heap.size≤b) (hL:L≤w.heap.size) (c0 c1 c2 c3 c4 c5 c6:Value):SvF5 L w (V.set7 w' b c0 c1 c2 c3 c4 c5 c6):=((((((x.setN hb hL _ _).setN hb hL _ _).setN hb hL _ _).setN hb hL _ _).setN hb hL _ _).setN hb hL _ _).setN hb hL _ _
def RunR (h:SHd) (w:World) (s:SMc) (e:Int) (q:PV) (en:Ending) (w':World):Prop :=
 SvF5 h.L w w'∧∃ ea ec a cap,en = .returned (trV ea s.ev.length ec (.int .i64 q.k) (.int .i64 q.n) (.complex .f64 q.re q.im) (.string q.s) (.slice a q.l.length cap) (if e = -1 then 0 else e))∧EvAt w' ea s.ev
theorem sGo_fr {fns:List KF} {k:Nat} {s:SMc} {x:SMc × Int} (hg:sGo fns k s=some x):0 < s.fr.length:=by
 cases k with
 | zero=>cases hg
 | succ k =>
  rw[sGo] at hg;cases hf:s.fr with
  | nil =>
   have:sStp fns s=none:=by
    unfold sStp sStep;rw[hf]
    split <;> rfl
   rw[this] at hg;cases hg
  | cons c r=>simp
theorem enterRet (v u:Value) (w:World):(callFunc 25 #[v,u]).run Tryz.prog w = .ok (.enter 25 #[v,u]) w:=by kernel_rfl
theorem run_m (fns:List KF) (main K:Nat) (f:KF) (s1:SMc) (e:Int) (q v:PV) (hf:fns[main]? = some f) (lc:Nat) (hps:f.ps=0) (hlc:f.lc=(lc:Int)) (hlb:lc≤1000) (fu:Int) (d:SAd) (hfl:h.fl=fns.length) (hp:RepP w (fun b=>b < h.L) h.fa fns) (hna:PtV h.L w h.na nilP) (hB:∀ f ∈ fns,f.code.length≤1000000) (hN:fns.length≤1000000) (x:SB h w [] [] fu 0 [] d)
  (hg:sGo fns K ⟨[⟨main,0,List.replicate lc nilP⟩],fu,[]⟩=some (s1,e)) (he1:e = -1→flV s1.fr = [v]∧q=cp v) (he2:e≠-1→q=nilP):Calls Tryz.prog 12 #[.pointer (some ⟨h.g,0,none⟩),.int .i64 (main:Int)] w (RunR h w s1 e q):=by
 have hL:=x.ltL;obtain⟨W0,hW0⟩:∃ W0,W0=w.alloc (.cells #[.slice none 0 0,.int .i64 0,.int .i64 0,.complex .f64 0 0,.string ⟨#[]⟩,.slice none 0 0,.int .i64 0] 35):=⟨_,rfl⟩;have X0:Ext w W0:=by rw[hW0];exact Ext.alloc _ _
 have r0:W0.heap[w.heap.size]? = some (.cells #[.slice none 0 0,.int .i64 0,.int .i64 0,.complex .f64 0 0,.string ⟨#[]⟩,.slice none 0 0,.int .i64 0] 35 (0,0)):=by rw[hW0];exact Go.heap_alloc_new w _
 have F0:SvF5 h.L w W0:=SvF5.of hL X0;have HOp:=zh (open_v fns main f hf hfl (RepP.to (fun b hb=>⟨hb,F0.low b hb⟩) hp) (x.ext X0) (by simp) (by simp) (by have:=(List.getElem?_eq_some_iff.1 hf).1;omega) 0 lc 0 (by simpa using hps) (by simpa using hlc) (by omega) hlb (by simp));have HSt:=zh (fun (W:World) (F:SvF5 h.L w W) (s s':SMc) (e':Int) (hs:sStp fns s=some (s',e')) (y:MR h W (clR s.fr) (flV s.fr) s.fu s.ev)=>step_m fns s s' e' hs hfl (RepP.to (fun b hb=>⟨hb,F.low b hb⟩) hp) (hna.on F) hB hN y);have HNa:=zh hna;have HW0:=zh hW0;have HF0:=zh F0;have HR0:=zh r0;have HG:=zh hg;have HE1:=zh he1;have HE2:=zh he2;clear x hp hna hg he1 he2 r0 F0 X0 hW0 hps hlc hf
 go_enter Tryz.func12,Tryz.ntmps12
 go_wp2_with fail
 rw[← zu HW0];refine k_scope_loop 0 (fun k a' wr => ∃ (s:SMc),a'.defers = []∧a'.tmps.size=34∧a'.tmps[0]? = some (.pointer (some ⟨h.g,0,none⟩))∧a'.tmps[4]? = some (.pointer (some ⟨w.heap.size,0,none⟩))∧Hd (sGo fns k s=some (s1,e))∧Hd (MR h wr (clR s.fr) (flV s.fr) s.fu s.ev)∧Hd (SvF5 h.L W0 wr)) rfl ?_ ?_
 ·rintro k ⟨TT,dd⟩ wr ⟨s,hd,hT,h0,h4,hG,hM,hF⟩
  obtain rfl:dd = []:=hd;obtain⟨u,rfl⟩:=fr34S TT hT;have e0:u 0 = .pointer (some ⟨h.g,0,none⟩):=Option.some.inj h0;have e4:u 4 = .pointer (some ⟨w.heap.size,0,none⟩):=Option.some.inj h4;rw[e0,e4];clear e0 e4 h0 h4 hT;cases k with
  | zero=>cases (zu hG)
  | succ k =>
  have hG2:=zu hG;rw[sGo] at hG2;cases hs:sStp fns s with
  | none=>rw[hs] at hG2;cases hG2
  | some se =>
  obtain⟨s',e'⟩:=se;rw[hs] at hG2;simp only at hG2;have C:=zu HSt wr ((zu HF0).trans (zu hF)) s s' e' hs (zu hM);by_cases hz:e' = 0
  ·rw[if_pos hz] at hG2
   subst hz;have C2:Hd (Calls Tryz.prog 23 #[.pointer (some ⟨h.g,0,none⟩)] wr fun en w'=>en = .returned (.int .i64 0)∧SvF5 h.L wr w'∧MR h w' (clR s'.fr) (flV s'.fr) s'.fu s'.ev):=Calls.mono C (by
    rintro en w' ⟨hF1,⟨h1,_⟩ | ⟨_,h2,h3⟩⟩
    ·cases h1
    ·exact⟨h2,hF1,h3⟩)
   have hlen:=sGo_fr hG2;have HG2:=zh hG2;clear C hs hG2 hM
   go_wp2_with (go_at_call 23;refine Calls.mono (zu C2) ?_;rintro en w5 ⟨rfl,hf5,hm5⟩;have HF5:=zh ((zu hF).trans hf5);have HM5:=zh hm5;have hm6:=hm5;obtain⟨ads5,evs5,d5,x5,_,_⟩:=hm6;have c1:=x5.cells.2.1;rw[clR_len] at c1;have hlen2:(0:Int) < (s'.fr.length:Int):=(by omega);clear hf5 hm5 x5)
   refine wp_goto ?_;exact⟨rfl,k,by omega,s',rfl,rfl,rfl,rfl,HG2,HM5,HF5⟩
  ·rw[if_neg hz] at hG2
   injection hG2 with hG2;injection hG2 with g1 g2;subst g1 g2;clear hs;by_cases hm1:e' = -1
   ·obtain⟨q1,q2⟩:=zu HE1 hm1
    have C2:Hd (Calls Tryz.prog 23 #[.pointer (some ⟨h.g,0,none⟩)] wr fun en w'=>en = .returned (.int .i64 0)∧SvF5 h.L wr w'∧MR h w' [] [v] s'.fu s'.ev):=Calls.mono C (by
     rintro en w' ⟨hF1,⟨_,h2,h3⟩ | ⟨h1,_⟩⟩
     ·rw[q1] at h3;exact⟨h2,hF1,h3⟩
     ·exact absurd hm1 h1)
    have HQ2:=zh q2;have HM1:=zh hm1;clear C hM q1 q2 hm1 hz
    go_wp2_with (go_at_call 23;refine Calls.mono (zu C2) ?_;rintro en w5 ⟨rfl,hf5,hm5⟩;have HF5:=zh ((zu hF).trans hf5);obtain⟨ads5,evs5,d5,x5,p5,v5⟩:=hm5;obtain⟨us5,ad5,ea5,pu5,pv5⟩:=PtL.unsnoc (vs:=[]) p5;have hu5:us5 = []:=List.length_eq_zero_iff.1 pu5.1;subst hu5;subst ea5;have c1:=x5.cells.2.1;have c4:=x5.cells.2.2.2.2.1;simp only[List.length_nil] at c1;have HX5:=zh x5;have HP5:=zh pv5;have HV5:=zh v5;clear hf5 p5 pu5 pv5 v5 x5)
    obtain⟨vb1,vo1,sa1,sc1,e7,E7⟩:=zu HP5;subst e7;have HE7:=zh E7;have XD:Ext w5 (World.drew w5):=Ext.drew (Ext.refl w5);have HPo:=zh (pop_v (us:=[]) ((zu HX5).ext XD) (by simp));have HXD:=zh XD;have hL5:=(zu HX5).ltL;clear E7 XD HP5;refine wp_nrm ?_
    go_region_law (first
     | (refine step_call_one rfl 26 (.tmp 29) 95 rfl _ (by simp[Act.eval,Act.put]) (enterPop _ _) (Calls.mono (zu HPo) ?_);rintro e6 w6 ⟨rfl,hs,hf⟩;refine⟨_,rfl,?_⟩;have FF:=(SvF5.of hL5 (zu HXD)).trans hf;have E6:=(zu HE7).to FF.nt;have z0:=E6.c0;have z1:=E6.c1;have z2:=E6.c2;have z3:=E6.c3;have z4:=E6.c4;obtain⟨s0,s1',s2',s3,s4,sf⟩:=hs.cells;have HRt:=zh (returned_v hs v _ _ _ _ _ (Rep.to (w':=w6) (F:=NT h.L w6) (F':=In w6) (fun b hb=>⟨hb.1,rfl⟩) _ _ E6.rep));have HS6:=zh hs;have HF6:=zh FF;clear hs hf FF E6)
     | (have G:=zu HRt;clear G;refine step_call_two rfl 25 (.tmp 28) (.tmp 32) 54 32 rfl _ _ (by simp[Act.eval,Act.put]) (by simp[Act.eval,Act.put]) (enterRet _ _ _) (Calls.mono (zu HRt) ?_);rintro e7 w7 ⟨a7,cap7,rfl,hx7⟩;refine⟨_,rfl,?_⟩;have r7:=hx7.row ((zu HF6).typ _ _ _ _ ((zu HF5).typ _ _ _ _ (zu HR0) (by unfold T5;decide)) (by unfold T5;decide));have t0:=zr r7 0 rfl;have t1:=zr r7 1 rfl;have t2:=zr r7 2 rfl;have t3:=zr r7 3 rfl;have t4:=zr r7 4 rfl;have t5:=zr r7 5 rfl;have t6:=zr r7 6 rfl;have tf:=fun i=>rowF r7 i;have HR6:=zh r7;have HX7:=zh hx7;clear hx7 r7))
    all_goals
     refine nrm_outW ?_
     go_wp2_with fail
     obtain⟨W9,hW9⟩:∃ W9,W9=(((((((w7.setCell ⟨w.heap.size,0,none⟩ (.slice d5.ea s'.ev.length d5.ec)).setCell ⟨w.heap.size,1,none⟩ (.int .i64 (cp v).k)).setCell ⟨w.heap.size,2,none⟩ (.int .i64 (cp v).n)).setCell ⟨w.heap.size,3,none⟩ (.complex .f64 (cp v).re (cp v).im)).setCell ⟨w.heap.size,4,none⟩ (.string (cp v).s)).setCell ⟨w.heap.size,5,none⟩ (.slice a7 (cp v).l.length cap7)).setCell ⟨w.heap.size,6,none⟩ (.int .i64 0)):=⟨_,rfl⟩;rw[← hW9];have b9:W9.heap[w.heap.size]? = some (.cells #[.slice d5.ea s'.ev.length d5.ec,(.int .i64 (cp v).k),(.int .i64 (cp v).n),(.complex .f64 (cp v).re (cp v).im),(.string (cp v).s),(.slice a7 (cp v).l.length cap7),.int .i64 0] 35 (0,0)):=by rw[hW9];exact set7_row (zu HR6) _ _ _ _ _ _ _
     have F9:SvF5 h.L w W9:=by rw[hW9];exact SvF5.set7 ((((zu HF0).trans (zu HF5)).trans (zu HF6)).trans (SvF5.of (zu HS6).ltL (zu HX7))) (Nat.le_refl _) hL _ _ _ _ _ _ _
     have V9:EvAt W9 d5.ea s'.ev:=by
      refine EvAt.keep (((zu HS6).evAt (zu HV5)).on (zu HX7)) fun b cur hb => ?_;rw[hW9];refine set7_off (fun e9 => ?_) _ _ _ _ _ _ _;subst e9;rw[zu HR6] at hb;injection hb with hb;injection hb with _ hb _;exact absurd hb (by decide)
     have u0:W9.cell? ⟨w.heap.size,0,none⟩=some (.slice d5.ea s'.ev.length d5.ec):=zr b9 0 rfl;have u1:W9.cell? ⟨w.heap.size,1,none⟩=some ((.int .i64 (cp v).k)):=zr b9 1 rfl;have u2:W9.cell? ⟨w.heap.size,2,none⟩=some ((.int .i64 (cp v).n)):=zr b9 2 rfl;have u3:W9.cell? ⟨w.heap.size,3,none⟩=some ((.complex .f64 (cp v).re (cp v).im)):=zr b9 3 rfl;have u4:W9.cell? ⟨w.heap.size,4,none⟩=some ((.string (cp v).s)):=zr b9 4 rfl;have u5:W9.cell? ⟨w.heap.size,5,none⟩=some ((.slice a7 (cp v).l.length cap7)):=zr b9 5 rfl;have u6:W9.cell? ⟨w.heap.size,6,none⟩=some (.int .i64 0):=zr b9 6 rfl;clear hW9 t0 t1 t2 t3 t4 t5 t6 tf;simp only[Exit.jump]
     exact bodyPost_ret (v:=trV d5.ea s'.ev.length d5.ec ((.int .i64 (cp v).k)) ((.int .i64 (cp v).n)) ((.complex .f64 (cp v).re (cp v).im)) ((.string (cp v).s)) ((.slice a7 (cp v).l.length cap7)) 0) (by simp[results,Tryz.results12,go_sem,u0,u1,u2,u3,u4,u5,u6]) rfl ⟨F9,d5.ea,d5.ec,a7,cap7,(by rw[if_pos (zu HM1),zu HQ2]),V9⟩
   ·have C2:Hd (Calls Tryz.prog 23 #[.pointer (some ⟨h.g,0,none⟩)] wr fun en w'=>en = .returned (.int .i64 e')∧SvF5 h.L wr w'∧MR h w' (clR s'.fr) (flV s'.fr) s'.fu s'.ev):=Calls.mono C (by
     rintro en w' ⟨hF1,⟨h1,_⟩ | ⟨_,h2,h3⟩⟩
     ·exact absurd h1 hm1
     ·exact⟨h2,hF1,h3⟩)
    have hq:=zu HE2 hm1;have HM1:=zh hm1;have hne0:(e' == 0)=false:=by rw[beq_eq_false_iff_ne];exact hz
    have hne1:(e' != 0)=true:=by rw[bne_iff_ne];exact hz
    clear C hM hm1
    go_wp2_with (first
     | (go_at_call 23;refine Calls.mono (zu C2) ?_;rintro en w5 ⟨rfl,hf5,hm5⟩;have HF5:=zh ((zu hF).trans hf5);obtain⟨ads5,evs5,d5,x5,p5,v5⟩:=hm5;have c4:=x5.cells.2.2.2.2.1;have HEn:=zh (ended_v x5 e');have HX5:=zh x5;have HV5:=zh (x5.evAt v5);clear hf5 p5 v5 x5)
     | (go_at_call 24;refine Calls.mono (zu HEn) ?_;rintro en w6 ⟨rfl,hx6⟩;have r6:=hx6.row ((zu HF5).typ _ _ _ _ (zu HR0) (by unfold T5;decide));have t0:=zr r6 0 rfl;have t1:=zr r6 1 rfl;have t2:=zr r6 2 rfl;have t3:=zr r6 3 rfl;have t4:=zr r6 4 rfl;have t5:=zr r6 5 rfl;have t6:=zr r6 6 rfl;have tf:=fun i=>rowF r6 i;have HR6:=zh r6;have HX6:=zh hx6;clear hx6 r6))
    obtain⟨W9,hW9⟩:∃ W9,W9=(((((((w6.setCell ⟨w.heap.size,0,none⟩ (.slice d5.ea s'.ev.length d5.ec)).setCell ⟨w.heap.size,1,none⟩ (.int .i64 0)).setCell ⟨w.heap.size,2,none⟩ (.int .i64 0)).setCell ⟨w.heap.size,3,none⟩ (.complex .f64 0 0)).setCell ⟨w.heap.size,4,none⟩ (.string ⟨#[]⟩)).setCell ⟨w.heap.size,5,none⟩ (.slice none 0 0)).setCell ⟨w.heap.size,6,none⟩ (.int .i64 e')):=⟨_,rfl⟩;rw[← hW9];have b9:W9.heap[w.heap.size]? = some (.cells #[.slice d5.ea s'.ev.length d5.ec,(.int .i64 0),(.int .i64 0),(.complex .f64 0 0),(.string ⟨#[]⟩),(.slice none 0 0),.int .i64 e'] 35 (0,0)):=by rw[hW9];exact set7_row (zu HR6) _ _ _ _ _ _ _
    have F9:SvF5 h.L w W9:=by rw[hW9];exact SvF5.set7 (((zu HF0).trans (zu HF5)).trans (SvF5.of (zu HX5).ltL (zu HX6))) (Nat.le_refl _) hL _ _ _ _ _ _ _
    have V9:EvAt W9 d5.ea s'.ev:=by
     refine EvAt.keep ((zu HV5).on (zu HX6)) fun b cur hb => ?_;rw[hW9];refine set7_off (fun e9 => ?_) _ _ _ _ _ _ _;subst e9;rw[zu HR6] at hb;injection hb with hb;injection hb with _ hb _;exact absurd hb (by decide)
    have u0:W9.cell? ⟨w.heap.size,0,none⟩=some (.slice d5.ea s'.ev.length d5.ec):=zr b9 0 rfl;have u1:W9.cell? ⟨w.heap.size,1,none⟩=some ((.int .i64 0)):=zr b9 1 rfl;have u2:W9.cell? ⟨w.heap.size,2,none⟩=some ((.int .i64 0)):=zr b9 2 rfl;have u3:W9.cell? ⟨w.heap.size,3,none⟩=some ((.complex .f64 0 0)):=zr b9 3 rfl;have u4:W9.cell? ⟨w.heap.size,4,none⟩=some ((.string ⟨#[]⟩)):=zr b9 4 rfl;have u5:W9.cell? ⟨w.heap.size,5,none⟩=some ((.slice none 0 0)):=zr b9 5 rfl;have u6:W9.cell? ⟨w.heap.size,6,none⟩=some (.int .i64 e'):=zr b9 6 rfl;clear hW9 t0 t1 t2 t3 t4 t5 t6 tf;simp only[Exit.jump]
    exact bodyPost_ret (v:=trV d5.ea s'.ev.length d5.ec ((.int .i64 0)) ((.int .i64 0)) ((.complex .f64 0 0)) ((.string ⟨#[]⟩)) ((.slice none 0 0)) e') (by simp[results,Tryz.results12,go_sem,u0,u1,u2,u3,u4,u5,u6]) rfl ⟨F9,d5.ea,d5.ec,none,0,(by rw[if_neg (zu HM1),hq];rfl),V9⟩
 ·intro H
  have H1:=zh H;clear H
  go_wp2_with (go_at_call 22;refine Calls.mono (zu HOp) ?_;rintro en w5 ⟨rfl,⟨ca5,cc5,va5,vc5,hs⟩,hf⟩;have HS5:=zh hs;have HF5:=zh hf;clear hs hf)
  refine wp_label ?_;rename_i hKK;refine hKK _ _ ?_;refine zu H1 K _ _ ⟨⟨[⟨main,0,List.replicate lc nilP⟩],fu,[]⟩,rfl,rfl,rfl,rfl,HG,?_,HF5⟩;refine⟨_,_,_,zu HS5,?_,rfl⟩;exact(PtL.nil (L:=h.L) (w:=w5)).repl ((zu HNa).on ((zu HF0).trans (zu HF5))) lc
end V
namespace V
variable {w w' w2:World} {h:SHd}
theorem fr23S (T:Array Value) (h:T.size=23):∃ u:Nat→Value,T = #[u 0,u 1,u 2,u 3,u 4,u 5,u 6,u 7,u 8,u 9,u 10,u 11,u 12,u 13,u 14,u 15,u 16,u 17,u 18,u 19,u 20,u 21,u 22]:=by
 refine⟨fun i=>T.getD i undef,?_⟩;have e:T=((List.range T.size).map (fun i=>T.getD i undef)).toArray:=by
  apply Array.ext
  ·simp
  ·intro i h1 h2
   simp[h1]
 rw[h] at e;exact e
theorem wp_midS {P:Program} {c:Code} {Q:Exit→Act→World→Prop} {a:Act} {w:World} (M:Act→World→Prop) (h1:Code.wp P c (Nrm (fun _ a' w'=>M a' w')) a w) (h2:∀ a' w',M a' w'→Q .normal a' w'):Code.wp P c Q a w:=by
 refine Code.wp_mono (fun e a' w' hq => ?_) h1;cases e <;> first | exact h2 _ _ hq | exact hq.elim
theorem alloc3 (w:World) (A B C:Obj):(((w.alloc A).alloc B).alloc C).drew.heap[w.heap.size]? = some A∧(((w.alloc A).alloc B).alloc C).drew.heap[w.heap.size+1]? = some B∧(((w.alloc A).alloc B).alloc C).drew.heap[w.heap.size+1+1]? = some C∧Ext w (((w.alloc A).alloc B).alloc C).drew:=by
 have e1:(w.alloc A).heap.size=w.heap.size+1:=by simp
 have e2:((w.alloc A).alloc B).heap.size=w.heap.size+1+1:=by simp
 refine⟨((Ext.alloc ((w.alloc A).alloc B) C).row ((Ext.alloc (w.alloc A) B).row (Go.heap_alloc_new w A))),?_,?_,((Ext.alloc _ _).trans (Ext.alloc _ _)).trans (Ext.drew (Ext.alloc _ _))⟩
 ·have:=Go.heap_alloc_new (w.alloc A) B
  rw[e1] at this;exact(Ext.alloc ((w.alloc A).alloc B) C).row this
 ·have:=Go.heap_alloc_new ((w.alloc A).alloc B) C
  rw[e2] at this;exact this
theorem SB.ini {L g r nb:Nat} {fa:Option Addr} {fl fc:Nat} {fu:Int} (hg:w.heap[g]? = some (.cells #[.slice fa fl fc,.slice none 0 0,.slice none 0 0,.pointer (some ⟨nb,0,none⟩),.pointer (some ⟨r,0,none⟩)] 59 (0,0))) (hr:w.heap[r]? = some (rcO fu none 0 0)) (hLg:L≤g) (hLr:L≤r):SB ⟨L,w.heap.size,g,r,fa,fl,fc,⟨nb,0,none⟩⟩ w [] [] fu 0 [] ⟨none,0,none,0,none,0⟩ :=
 ⟨hg,hr,World.ownsRow_nil _ _ _ _,World.ownsRow_nil _ _ _ _,World.ownsRow_nil _ _ _ _,⟨hLg,(Array.getElem?_eq_some_iff.1 hg).1⟩,⟨hLr,(Array.getElem?_eq_some_iff.1 hr).1⟩,Nat.le_refl _⟩
theorem PtV.ini {L nb:Nat} (hn:w.heap[nb]? = some (.cells #[.int .i64 0,.int .i64 0,.complex .f64 0 0,.string ⟨#[]⟩,.slice none 0 0] 32 (0,0))):PtV L w ⟨nb,0,none⟩ nilP :=
 ⟨nb,0,none,0,rfl,⟨⟨(Array.getElem?_eq_some_iff.1 hn).1,Or.inr ⟨_,_,_,hn,notT5⟩⟩,zr hn 0 rfl,zr hn 1 rfl,zr hn 2 rfl,zr hn 3 rfl,zr hn 4 rfl,by constructor <;> decide,by simp[nilP,RepL]⟩⟩
theorem enterWith (v:Value) (w:World):(callFunc 11 #[v]).run Tryz.prog w = .ok (.enter 11 #[v]) w:=by kernel_rfl
theorem svmrun_m (fns:List KF) (pa:Option Addr) (pc main K Kc:Nat) (f:KF) (s1:SMc) (e:Int) (q v:PV) (hf:fns[main]? = some f) (lc:Nat) (hps:f.ps=0) (hlc:f.lc=(lc:Int)) (hlb:lc≤1000) (fuel:Int) (hp:RepP w (In w) pa fns) (hB:∀ f ∈ fns,f.code.length≤1000000) (hN:fns.length≤1000000) (hKf:KfB fns) (hKc:Kc≤1000000) (hck:kChk fns (main:Int) Kc=some 0)
  (hg:sGo fns K ⟨[⟨main,0,List.replicate lc nilP⟩],min fuel 100000,[]⟩=some (s1,e)) (he1:e = -1→flV s1.fr = [v]∧q=cp v) (he2:e≠-1→q=nilP):Calls Tryz.prog 6 #[kpV pa fns.length pc (main:Int),.int .i64 fuel] w fun en w'=>Ext w w'∧∃ ea ec a cap,en = .returned (.tuple #[trV ea s1.ev.length ec (.int .i64 q.k) (.int .i64 q.n) (.complex .f64 q.re q.im) (.string q.s) (.slice a q.l.length cap) (if e = -1 then 0 else e),.int .i64 0])∧EvAt w' ea s1.ev:=by
 obtain⟨er,her⟩:∃ er:Int,(if e = -1 then (0:Int) else e)=er:=⟨_,rfl⟩
 rw[her];have HER:=zh her;clear her;obtain⟨W0,hW0⟩:∃ W0,W0=(w.alloc (.cells #[.slice pa fns.length pc,.int .i64 (main:Int)] 25)).alloc (.cells #[.slice none 0 0,.int .i64 0,.int .i64 0,.complex .f64 0 0,.string ⟨#[]⟩,.slice none 0 0,.int .i64 0] 35):=⟨_,rfl⟩;have X0:Ext w W0:=by rw[hW0];exact(Ext.alloc _ _).trans (Ext.alloc _ _)
 have rP:W0.heap[w.heap.size]? = some (.cells #[.slice pa fns.length pc,.int .i64 (main:Int)] 25 (0,0)):=by rw[hW0];exact(Ext.alloc _ _).row (Go.heap_alloc_new w _)
 have rT:W0.heap[w.heap.size+1]? = some (.cells #[.slice none 0 0,.int .i64 0,.int .i64 0,.complex .f64 0 0,.string ⟨#[]⟩,.slice none 0 0,.int .i64 0] 35 (0,0)):=by
  rw[hW0];have:=Go.heap_alloc_new (w.alloc (.cells #[.slice pa fns.length pc,.int .i64 (main:Int)] 25)) (.cells #[.slice none 0 0,.int .i64 0,.int .i64 0,.complex .f64 0 0,.string ⟨#[]⟩,.slice none 0 0,.int .i64 0] 35)
  simpa using this
 have HC:=zh (check_sw fns pa pc (main:Int) Kc 0 W0 (hp.ext X0) hN hKf hKc hck);have HX0:=zh X0;have HW0:=zh hW0;have HRP:=zh rP;have HRT:=zh rT;have HP:=zh hp;have HG:=zh hg;have HE1:=zh he1;have HE2:=zh he2;clear hW0 X0 rP rT hp hg he1 he2 hck
 go_enter Tryz.func6,Tryz.ntmps6
 go_wp2_with (go_at_call 10;rw[← zu HW0];refine Calls.mono (zu HC) ?_;rintro en w4 ⟨rfl,hx4⟩;have p4:=hx4.row (zu HRP);have c0:=zr p4 0 rfl;have c1:=zr p4 1 rfl;have HT4:=zh (hx4.row (zu HRT));have HX4:=zh hx4;have HP4:=zh p4;clear hx4 p4)
 have a0:=fun ob=>(Ext.alloc w4 ob).cell c0;have a1:=fun ob ob2=>(Ext.alloc (w4.alloc ob) ob2).cell ((Ext.alloc w4 ob).cell c0);have a2:=fun ob ob2 ob3=>(Ext.alloc ((w4.alloc ob).alloc ob2) ob3).cell ((Ext.alloc (w4.alloc ob) ob2).cell ((Ext.alloc w4 ob).cell c0))
 refine wp_midS (fun a' w' => ∃ g r nb,a'.defers = []∧a'.tmps.size=23∧a'.tmps[2]? = some (.pointer (some ⟨w.heap.size,0,none⟩))∧a'.tmps[4]? = some (.pointer (some ⟨w.heap.size+1,0,none⟩))∧a'.tmps[7]? = some (.pointer (some ⟨g,0,none⟩))∧Ext w4 w'∧w'.heap[g]? = some (.cells #[.slice pa fns.length pc,.slice none 0 0,.slice none 0 0,.pointer (some ⟨nb,0,none⟩),.pointer (some ⟨r,0,none⟩)] 59 (0,0))∧w'.heap[r]? = some (rcO (min fuel 100000) none 0 0)∧w'.heap[nb]? = some (.cells #[.int .i64 0,.int .i64 0,.complex .f64 0 0,.string ⟨#[]⟩,.slice none 0 0] 32 (0,0))∧w4.heap.size≤g∧w4.heap.size≤r) ?_ ?_
 ·go_region_law (first
   | (refine step_call_one rfl 11 (.tmp 17) 3 rfl _ (by simp[Act.eval,Act.put]) (enterWith _ _) (Calls.mono (with_v fuel) ?_);rintro e5 w5 ⟨rfl,rfl⟩;refine⟨_,rfl,?_⟩))
  all_goals
   refine nrm_outW ?_;clear HER HC HX0 HW0 HRP HRT HP HG HE1 HE2 HT4 HX4 HP4 a0 a1 a2 c0 c1
   first
    | exact⟨_,_,_,rfl,rfl,rfl,rfl,rfl,(alloc3 _ _ _ _).2.2.2,(alloc3 _ _ _ _).1,(alloc3 _ _ _ _).2.1,(alloc3 _ _ _ _).2.2.1,by omega,by omega⟩
    | exact⟨_,_,_,rfl,rfl,rfl,rfl,rfl,(alloc3 _ _ _ _).2.2.2,(alloc3 _ _ _ _).1,(alloc3 _ _ _ _).2.2.1,(alloc3 _ _ _ _).2.1,by omega,by omega⟩
    | exact⟨_,_,_,rfl,rfl,rfl,rfl,rfl,(alloc3 _ _ _ _).2.2.2,(alloc3 _ _ _ _).2.1,(alloc3 _ _ _ _).1,(alloc3 _ _ _ _).2.2.1,by omega,by omega⟩
    | exact⟨_,_,_,rfl,rfl,rfl,rfl,rfl,(alloc3 _ _ _ _).2.2.2,(alloc3 _ _ _ _).2.1,(alloc3 _ _ _ _).2.2.1,(alloc3 _ _ _ _).1,by omega,by omega⟩
    | exact⟨_,_,_,rfl,rfl,rfl,rfl,rfl,(alloc3 _ _ _ _).2.2.2,(alloc3 _ _ _ _).2.2.1,(alloc3 _ _ _ _).1,(alloc3 _ _ _ _).2.1,by omega,by omega⟩
    | exact⟨_,_,_,rfl,rfl,rfl,rfl,rfl,(alloc3 _ _ _ _).2.2.2,(alloc3 _ _ _ _).2.2.1,(alloc3 _ _ _ _).2.1,(alloc3 _ _ _ _).1,by omega,by omega⟩
 ·rintro⟨TT,dd⟩ W ⟨g,r,nb,hd,hT,h2,h4,h7,hXW,hgr,hrr,hnr,hg4,hr4⟩
  obtain rfl:dd = []:=hd;obtain⟨u,rfl⟩:=fr23S TT hT;have e2:u 2 = .pointer (some ⟨w.heap.size,0,none⟩):=Option.some.inj h2;have e4:u 4 = .pointer (some ⟨w.heap.size+1,0,none⟩):=Option.some.inj h4;have e7:u 7 = .pointer (some ⟨g,0,none⟩):=Option.some.inj h7;rw[e2,e4,e7];clear e2 e4 e7 h2 h4 h7 hT;have XwW:Ext w W:=((zu HX0).trans (zu HX4)).trans hXW;have hs4:w.heap.size≤w4.heap.size:=((zu HX0).trans (zu HX4)).size
  have HRun:Hd (Calls Tryz.prog 12 #[.pointer (some ⟨g,0,none⟩),.int .i64 (main:Int)] W fun en w'=>SvF5 w4.heap.size W w'∧∃ ea ec a cap,en = .returned (trV ea s1.ev.length ec (.int .i64 q.k) (.int .i64 q.n) (.complex .f64 q.re q.im) (.string q.s) (.slice a q.l.length cap) er)∧EvAt w' ea s1.ev):=Calls.mono (run_m (h:=⟨w4.heap.size,W.heap.size,g,r,pa,fns.length,pc,⟨nb,0,none⟩⟩) fns main K f s1 e q v hf lc hps hlc hlb (min fuel 100000) ⟨none,0,none,0,none,0⟩ rfl (RepP.to (fun b hb=>⟨Nat.lt_of_lt_of_le hb hs4,XwW.block b hb⟩) (zu HP)) (PtV.ini hnr) hB hN (SB.ini hgr hrr hg4 hr4) (zu HG) (zu HE1) (zu HE2)) (by
   rintro en w' ⟨h1,ea,ec,a,cap,h2,h3⟩;rw[zu HER] at h2;exact⟨h1,ea,ec,a,cap,h2,h3⟩)
  have d1:=hXW.cell c1;have HXW:=zh hXW;have HXw:=zh XwW;clear hgr hrr hnr hXW XwW a0 a1 a2 c0 c1 hf hps hlc hB
  go_wp2_with (go_at_call 12;refine Calls.mono (zu HRun) ?_;rintro en w7 ⟨hF7,ea,ec,a,cap,rfl,hV7⟩;have x7:=SvF5.extOf (zu HXW) hF7;have r7:=x7.row (zu HT4);have t0:=zr r7 0 rfl;have t1:=zr r7 1 rfl;have t2:=zr r7 2 rfl;have t3:=zr r7 3 rfl;have t4:=zr r7 4 rfl;have t5:=zr r7 5 rfl;have t6:=zr r7 6 rfl;have tf:=fun i=>rowF r7 i;have HR7:=zh r7;have HV7:=zh hV7;have HX7:=zh (((zu HX0).trans (zu HX4)).trans x7);clear hF7 hV7 x7 r7)
  obtain⟨W9,hW9⟩:∃ W9,W9=(((((((w7.setCell ⟨w.heap.size+1,0,none⟩ (.slice ea s1.ev.length ec)).setCell ⟨w.heap.size+1,1,none⟩ (.int .i64 q.k)).setCell ⟨w.heap.size+1,2,none⟩ (.int .i64 q.n)).setCell ⟨w.heap.size+1,3,none⟩ (.complex .f64 q.re q.im)).setCell ⟨w.heap.size+1,4,none⟩ (.string q.s)).setCell ⟨w.heap.size+1,5,none⟩ (.slice a q.l.length cap)).setCell ⟨w.heap.size+1,6,none⟩ (.int .i64 er)):=⟨_,rfl⟩;rw[← hW9];have b9:W9.heap[w.heap.size+1]? = some (.cells #[.slice ea s1.ev.length ec,(.int .i64 q.k),(.int .i64 q.n),(.complex .f64 q.re q.im),(.string q.s),(.slice a q.l.length cap),.int .i64 er] 35 (0,0)):=by rw[hW9];exact set7_row (zu HR7) _ _ _ _ _ _ _
  have hle:w.heap.size≤w.heap.size+1:=by omega
  have X9:Ext w W9:=by
   rw[hW9];exact(((((((zu HX7).set hle _).set hle _).set hle _).set hle _).set hle _).set hle _).set hle _
  have V9:EvAt W9 ea s1.ev:=by
   refine EvAt.keep (zu HV7) fun b cur hb => ?_;rw[hW9];refine set7_off (fun e9 => ?_) _ _ _ _ _ _ _;subst e9;rw[zu HR7] at hb;injection hb with hb;injection hb with _ hb _;exact absurd hb (by decide)
  have u0:W9.cell? ⟨w.heap.size+1,0,none⟩=some (.slice ea s1.ev.length ec):=zr b9 0 rfl;have u1:W9.cell? ⟨w.heap.size+1,1,none⟩=some ((.int .i64 q.k)):=zr b9 1 rfl;have u2:W9.cell? ⟨w.heap.size+1,2,none⟩=some ((.int .i64 q.n)):=zr b9 2 rfl;have u3:W9.cell? ⟨w.heap.size+1,3,none⟩=some ((.complex .f64 q.re q.im)):=zr b9 3 rfl;have u4:W9.cell? ⟨w.heap.size+1,4,none⟩=some ((.string q.s)):=zr b9 4 rfl;have u5:W9.cell? ⟨w.heap.size+1,5,none⟩=some ((.slice a q.l.length cap)):=zr b9 5 rfl;have u6:W9.cell? ⟨w.heap.size+1,6,none⟩=some (.int .i64 er):=zr b9 6 rfl;clear hW9 t0 t1 t2 t3 t4 t5 t6 tf
  exact bodyPost_ret (v:=.tuple #[trV ea s1.ev.length ec ((.int .i64 q.k)) ((.int .i64 q.n)) ((.complex .f64 q.re q.im)) ((.string q.s)) ((.slice a q.l.length cap)) er,.int .i64 0]) (by simp[results,Tryz.results6,go_sem,u0,u1,u2,u3,u4,u5,u6]) rfl ⟨X9,ea,ec,a,cap,rfl,V9⟩
end V
end Go.Proofs.YtjnpehohialmbaaGreat
