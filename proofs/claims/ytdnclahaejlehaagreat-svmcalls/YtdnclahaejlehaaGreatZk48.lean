/- What is read of a text,by the faster lexer. · The walk of the law LexInts: digits are the number that they tell,alone or with an i;one too great is none. · The text of SvmCalls: its words,the number a variable. · The run of a function that calls itself,on the plain machine with a stack. · The program of SvmCalls: what the document makes of its text. -/
import Derived.Test.YtdnclahaejlehaaGreatZk20
import Derived.Test.YtdnclahaejlehaaGreatZk5
import Derived.Test.YtdnclahaejlehaaGreatZk17
import Derived.Test.YtdnclahaejlehaaGreatZk41
import Derived.Test.YtdnclahaejlehaaGreatZk46
set_option linter.unusedSimpArgs false
set_option linter.unusedVariables false
set_option maxRecDepth 10000
set_option maxHeartbeats 2000000
namespace Go.Proofs.YtdnclahaejlehaaGreat
open Go.RowKit
section
theorem size_mk (l:List UInt8):(⟨l.toArray⟩:ByteArray).size=l.length:=by
 show l.toArray.size=_;simp
def begL (l:List UInt8):PS:=if 4000 < l.length then ⟨[],0,0,2⟩ else match (lexL (l.length+1) (l.length+1) l 0).2 with
 | some b=>⟨[],0,(b:Nat),10⟩
 | none=>⟨(lexL (l.length+1) (l.length+1) l 0).1,0,0,0⟩
theorem begP_L (l:List UInt8):begP ⟨l.toArray⟩=begL l:=by
 unfold begP begL;rw[lexF_L _ _ _ (Nat.zero_le _),size_mk,L_mk,List.drop_zero];rfl
def rdL (l:List UInt8) (F:Nat):List PFn × PS:=funsP l.length (stsP l.length F F).2.1 F F [] (begL l)
theorem rdP_L (l:List UInt8) (F:Nat):rdP ⟨l.toArray⟩ F=rdL l F:=by
 unfold rdP rdL;rw[begP_L,size_mk]
end
section
structure Dgs (t:ByteArray) (n:Nat):Prop where
 all:∀ c ∈ L t,dg c=true
 ne:L t≠[]
 val:dv 0 (L t)=n
def dgt (d:Nat):UInt8:=UInt8.ofNat (48+d)
theorem tab_cut:∀ d,d < 10→({ data:=#[48,49,50,51,52,53,54,55,56,57] }:ByteArray).extract d (d+1)=⟨#[dgt d]⟩:=by decide
theorem dig_of:∀ d,d < 10→dg (dgt d)=true∧(dgt d).toNat - 48=d:=by decide
theorem digits_any (n:Nat) (w:World) (hn:n≤9223372036854775807) :
  Calls Tryz.prog 7 #[.int .i64 n] w fun e w' => ∃ t:ByteArray,e = .returned (.string t)∧Dgs t n∧t.size≤20∧w' = w:=by
 go_enter Tryz.func7,Tryz.ntmps7
 have hmin:((n:Int) == -9223372036854775808)=false:=by simp
 go_wp2
 go_loop [0,3] (fun x v => ∃ (m k:Nat) (t:ByteArray),x = .int .i64 m∧v = .string t∧t.size=k∧m≤n∧(k=0∨1≤m)∧Hd (m * 10 ^ k≤n∧(∀ c ∈ L t,dg c=true)∧dv m (L t)=n)) (fun x _=>(intOf x).toNat)
 case atStart=>exact⟨n,0,_,rfl,rfl,rfl,Nat.le_refl _,Or.inl rfl,⟨by rw[Nat.pow_zero,Nat.mul_one];exact Nat.le_refl _,(fun c hc=>by cases hc),rfl⟩⟩
 case round =>
  obtain⟨m,k,t,rfl,rfl,hk,hm,hp,hI⟩:=hrel;have hsz:t.size≤19:=by
   rcases Nat.lt_or_ge k 20 with h | h
   ·omega
   ·have h1:=(zu hI).1
    have h2:10 ^ 20≤10 ^ k:=Nat.pow_le_pow_right (by decide) h;have h3:m * 10 ^ 20≤m * 10 ^ k:=Nat.mul_le_mul_left m h2;have h4:(10:Nat) ^ 20=100000000000000000000:=rfl;omega
  have hkk:=zh hk;clear hk;by_cases hlt:9 < m
  ·obtain⟨d,hd⟩:∃ d,d=m % 10:=⟨_,rfl⟩
   have hd10:d < 10:=by rw[hd];exact Nat.mod_lt _ (by decide)
   have ht:=tab_cut d hd10;have hmod:(m:Int) % 10=(d:Int):=by omega
   have hN:Hd (m / 10 * 10 ^ (k+1)≤n∧(∀ c ∈ L (({ data:=#[dgt d] }:ByteArray)++t),dg c=true)∧dv (m / 10) (L (({ data:=#[dgt d] }:ByteArray)++t))=n):=by
    obtain⟨h1,h2,h3⟩:=zu hI;obtain⟨g1,g2⟩:=dig_of d hd10;rw[L_append];refine⟨?_,?_,?_⟩
    ·refine Nat.le_trans ?_ h1
     rw[Nat.pow_succ,Nat.mul_comm (10 ^ k) 10,← Nat.mul_assoc];exact Nat.mul_le_mul_right _ (Nat.div_mul_le_self m 10)
    ·intro c hc
     rcases List.mem_append.1 hc with hc | hc
     ·rw[List.mem_singleton.1 (show c ∈ [dgt d] from hc)];exact g1
     ·exact h2 c hc
    ·show dv (m / 10) (dgt d :: L t)=n
     rw[dv_cons,g2,hd,show m / 10 * 10+m % 10=m by omega];exact h3
   have hz:Hd ((({ data:=#[dgt d] }:ByteArray)++t).size=k+1):=by rw[ByteArray.size_append,zu hkk];show 1+k=_;omega
   clear hd
   go_wp2
   go_round
   case rel=>exact⟨m / 10,k+1,_,by go_num,rfl,zu hz,by omega,by omega,hN⟩
   case measure=>simp[intOf];omega
  ·have hF:Hd (Dgs (({ data:=#[dgt m] }:ByteArray)++t) n∧(({ data:=#[dgt m] }:ByteArray)++t).size≤20):=by
    obtain⟨h1,h2,h3⟩:=zu hI;obtain⟨g1,g2⟩:=dig_of m (by omega);refine⟨⟨?_,?_,?_⟩,?_⟩
    ·rw[L_append]
     intro c hc;rcases List.mem_append.1 hc with hc | hc
     ·rw[List.mem_singleton.1 (show c ∈ [dgt m] from hc)];exact g1
     ·exact h2 c hc
    ·rw[L_append];simp[L]
    ·rw[L_append]
     show dv 0 (dgt m :: L t)=n;rw[dv_cons,g2,Nat.zero_mul,Nat.zero_add];exact h3
    ·rw[ByteArray.size_append];show 1+t.size≤20;omega
   have ht:=tab_cut m (by omega)
   go_wp2
   go_ret;exact⟨_,rfl,(zu hF).1,(zu hF).2,rfl⟩
end
section
theorem lex_dgs (F f:Nat) (ds:List UInt8) (c:UInt8) (rest:List UInt8) (o:Nat) (h:∀ x ∈ ds,dg x=true) (hne:ds≠[]) (hv:dv 0 ds≤9223372036854775807) (hd:dg c=false) (hn:nm c=false) (hi:c≠105):lexL F (f+1) (ds++c :: rest) o=(⟨3,⟨#[]⟩,((dv 0 ds:Nat):Int),o⟩ :: (lexL F f (c :: rest) (o+ds.length)).1,(lexL F f (c :: rest) (o+ds.length)).2):=by
 have hrun:run dg (ds++c :: rest)=ds.length:=run_all ds _ h (fun x hx=>by simp at hx;subst hx;exact hd);have hdr:(ds++c :: rest).drop ds.length=c :: rest:=by simp
 have htk:(ds++c :: rest).take ds.length=ds:=by simp
 have hg:(ds++c :: rest)[ds.length]? = some c:=by simp
 obtain⟨d,r,e⟩:∃ d r,ds=d :: r:=by
  cases ds with
  | nil=>exact absurd rfl hne
  | cons d r=>exact⟨d,r,rfl⟩
 have hdd:dg d=true:=h d (by rw[e];simp);have hcn:=(dg_iff d).1 hdd;have hb:bl d=false:=by rw[← Bool.not_eq_true,bl_iff];omega
 have hl:ds++c :: rest=d :: (r++c :: rest):=by rw[e];rfl
 have hsk:skp false (ds++c :: rest)=0:=by rw[hl,skp,hb,if_neg (by decide),if_neg (by omega)]
 have htok:tokL F (ds++c :: rest)=some (3,[],((dv 0 ds:Nat):Int),ds.length):=by
  rw[hl,tokL,if_pos hdd,← hl,hrun];unfold numL;rw[htk,hg,if_neg (by omega),if_neg (by simpa using hi)];simp[hn]
 rw[lexL,hsk,List.drop_zero,Nat.add_zero];rw[hl] at htok hdr ⊢;simp only;rw[htok];simp only;rw[hdr]
def preC:List UInt8:=[102,110,32,102,40,110,41,32,123,32,105,102,32,110,32,61,61,32,48,32,123,32,114,101,116,117,114,110,32,48,59,32,125,32,114,101,116,117,114,110,32,49,32,43,32,102,40,110,32,45,32,49,41,59,32,125,32,102,110,32,109,97,105,110,40,41,32,123,32,114,101,116,117,114,110,32,102,40]
def postC:List UInt8:=[41,59,32,125]
def tkC1:List Tk:=[⟨2,⟨#[102,110]⟩,0,0⟩,⟨1,⟨#[102]⟩,0,3⟩,⟨6,⟨#[40]⟩,0,4⟩,⟨1,⟨#[110]⟩,0,5⟩,⟨6,⟨#[41]⟩,0,6⟩,⟨6,⟨#[123]⟩,0,8⟩,⟨2,⟨#[105,102]⟩,0,10⟩,⟨1,⟨#[110]⟩,0,13⟩,⟨6,⟨#[61,61]⟩,0,15⟩,⟨3,⟨#[]⟩,0,18⟩,⟨6,⟨#[123]⟩,0,20⟩,⟨2,⟨#[114,101,116,117,114,110]⟩,0,22⟩,⟨3,⟨#[]⟩,0,29⟩,⟨6,⟨#[59]⟩,0,30⟩,⟨6,⟨#[125]⟩,0,32⟩,⟨2,⟨#[114,101,116,117,114,110]⟩,0,34⟩,⟨3,⟨#[]⟩,1,41⟩,⟨6,⟨#[43]⟩,0,43⟩,⟨1,⟨#[102]⟩,0,45⟩,⟨6,⟨#[40]⟩,0,46⟩,⟨1,⟨#[110]⟩,0,47⟩,⟨6,⟨#[45]⟩,0,49⟩,⟨3,⟨#[]⟩,1,51⟩,⟨6,⟨#[41]⟩,0,52⟩,⟨6,⟨#[59]⟩,0,53⟩,⟨6,⟨#[125]⟩,0,55⟩,⟨2,⟨#[102,110]⟩,0,57⟩,⟨1,⟨#[109,97,105,110]⟩,0,60⟩,⟨6,⟨#[40]⟩,0,64⟩,⟨6,⟨#[41]⟩,0,65⟩,⟨6,⟨#[123]⟩,0,67⟩,⟨2,⟨#[114,101,116,117,114,110]⟩,0,69⟩,⟨1,⟨#[102]⟩,0,76⟩,⟨6,⟨#[40]⟩,0,77⟩]
def tkC2 (o:Nat):List Tk:=[⟨6,⟨#[41]⟩,0,o⟩,⟨6,⟨#[59]⟩,0,o+1⟩,⟨6,⟨#[125]⟩,0,o+3⟩]
theorem lex_preC (F f:Nat) (rest:List UInt8):lexL F (f+34) (preC++rest) 0=(tkC1++(lexL F f rest 78).1,(lexL F f rest 78).2):=by kernel_rfl
theorem lex_postC (F f o:Nat):lexL F (f+4) postC o=(tkC2 o,none):=by kernel_rfl
theorem lex_calls (F f n:Nat) (ds:List UInt8) (h:∀ x ∈ ds,dg x=true) (hne:ds≠[]) (hv:dv 0 ds=n) (hn:n≤100000):lexL F (f+39) (preC++(ds++postC)) 0=(tkC1++⟨3,⟨#[]⟩,(n:Int),78⟩ :: tkC2 (78+ds.length),none):=by
 have e:postC=41 :: [59,32,125]:=rfl;rw[show f+39=(f+4+1)+34 by omega,lex_preC,e,lex_dgs F (f+4) ds 41 [59,32,125] 78 h hne (by omega) (by decide) (by decide) (by decide),← e,lex_postC,hv]
theorem beg_calls (n:Nat) (ds:List UInt8) (h:∀ x ∈ ds,dg x=true) (hne:ds≠[]) (hv:dv 0 ds=n) (hn:n≤100000) (hl:ds.length≤20):begL (preC++(ds++postC))=⟨tkC1++⟨3,⟨#[]⟩,(n:Int),78⟩ :: tkC2 (78+ds.length),0,0,0⟩:=by
 have e1:(preC++(ds++postC)).length=82+ds.length:=by
  rw[List.length_append,List.length_append];show 78+(ds.length+4)=_;omega
 unfold begL;rw[e1,if_neg (by omega),show 82+ds.length+1=(44+ds.length)+39 by omega,lex_calls _ _ n ds h hne hv hn]
def nN (k:Int):PN:=⟨15,0,zE,k,[]⟩
def vN:PN:=⟨19,0,⟨#[110]⟩,0,[]⟩
def fsC (n:Int):List PFn:=[⟨⟨#[102]⟩,[⟨#[110]⟩],⟨10,0,zE,0,[⟨3,0,zE,0,[⟨11,6,zE,0,[vN,nN 0]⟩,⟨10,0,zE,0,[⟨7,0,zE,0,[nN 0]⟩]⟩]⟩,⟨7,0,zE,0,[⟨11,1,zE,0,[nN 1,⟨20,0,⟨#[102]⟩,0,[⟨11,2,zE,0,[vN,nN 1]⟩]⟩]⟩]⟩]⟩⟩,⟨⟨#[109,97,105,110]⟩,[],⟨10,0,zE,0,[⟨7,0,zE,0,[⟨20,0,⟨#[102]⟩,0,[nN n]⟩]⟩]⟩⟩]
theorem funs_calls (len:Nat) (n:Int) (o:Nat):funsP len (stsP len 60 60).2.1 60 60 [] ⟨tkC1++⟨3,⟨#[]⟩,n,78⟩ :: tkC2 o,0,0,0⟩=(fsC n,⟨[],0,0,0⟩):=by kernel_rfl
theorem rd_calls (n:Nat) (ds:List UInt8) (h:∀ x ∈ ds,dg x=true) (hne:ds≠[]) (hv:dv 0 ds=n) (hn:n≤100000) (hl:ds.length≤20):rdL (preC++(ds++postC)) 60=(fsC n,⟨[],0,0,0⟩):=by
 unfold rdL;rw[beg_calls n ds h hne hv hn hl];exact funs_calls _ _ _
end
namespace V
theorem tru_it (x:Int):truev (tk (it x))=decide (x≠0):=by
 have h:tk (it x)=it x:=by unfold tk;rw[okv_it,if_pos rfl]
 rw[h];unfold truev it;simp only;rw[decide_eq_decide];constructor
 ·intro h1 h2;exact h1 ⟨h2,⟨ord00,ord00⟩,empty_list,rfl⟩
 ·intro h1 h2;exact h1 h2.1
theorem sGo_on {fns:List KF} {k:Nat} {c:SFr} {r:List SFr} {fu:Int} {ev:List SEv} {f:KF} {i:KI} {s':SMc} (hb:sLen r+c.vs.length≤800000∧r.length≤800000∧ev.length≤800000∧fu≤800000) (hf:fns[c.fn]? = some f) (hi:f.code[c.pc]? = some i) (h:sIns fns f i c r ⟨c :: r,fu,ev⟩=some (s',0)):sGo fns (k+1) ⟨c :: r,fu,ev⟩=sGo fns k s':=by
 rw[sGo];have h1:sStp fns ⟨c :: r,fu,ev⟩=some (s',0):=by
  unfold sStp;rw[if_neg (by simp only[sLen,List.length_cons];omega)];unfold sStep;simp only;rw[if_neg (by simp only[sLen,List.length_cons];omega),hf];simp only;rw[hi];exact h
 rw[h1];simp
theorem sGo_end {fns:List KF} {k:Nat} {c:SFr} {r:List SFr} {fu:Int} {ev:List SEv} {f:KF} {i:KI} {s':SMc} {e:Int} (he:e≠0) (hb:sLen r+c.vs.length≤800000∧r.length≤800000∧ev.length≤800000∧fu≤800000) (hf:fns[c.fn]? = some f) (hi:f.code[c.pc]? = some i) (h:sIns fns f i c r ⟨c :: r,fu,ev⟩=some (s',e)):sGo fns (k+1) ⟨c :: r,fu,ev⟩=some (s',e):=by
 rw[sGo];have h1:sStp fns ⟨c :: r,fu,ev⟩=some (s',e):=by
  unfold sStp;rw[if_neg (by simp only[sLen,List.length_cons];omega)];unfold sStep;simp only;rw[if_neg (by simp only[sLen,List.length_cons];omega),hf];simp only;rw[hi];exact h
 rw[h1];simp[he]
def cdF:List KI:=[⟨2,0,0⟩,⟨1,0,0⟩,⟨5,6,0⟩,⟨8,6,0⟩,⟨1,0,0⟩,⟨10,0,0⟩,⟨1,1,0⟩,⟨2,0,0⟩,⟨1,1,0⟩,⟨5,2,0⟩,⟨12,1,0⟩,⟨9,0,1⟩,⟨5,1,0⟩,⟨10,0,0⟩,⟨1,2,0⟩,⟨10,0,0⟩]
def cdM:List KI:=[⟨1,0,0⟩,⟨12,2,0⟩,⟨9,0,1⟩,⟨10,0,0⟩,⟨1,1,0⟩,⟨10,0,0⟩]
def fnC (a b:ByteArray) (n:Int):List KF:=[⟨a,1,1,[it 0,it 1,nilP],cdF⟩,⟨b,0,0,[it n,nilP],cdM⟩]
def pnd (n:Nat):Nat→List SFr
 | 0 => [⟨1,3,[]⟩]
 | k+1=>⟨0,12,[it ((n:Int) - k),it 1]⟩ :: pnd n k
theorem pnd_len (n:Nat):∀ k,sLen (pnd n k)=2 * k∧(pnd n k).length=k+1
 | 0=>⟨rfl,rfl⟩
 | k+1=>by
  obtain⟨h1,h2⟩:=pnd_len n k;rw[pnd];refine⟨?_,?_⟩
  ·simp only[sLen,h1,List.length_cons,List.length_nil];omega
  ·simp[h2]
variable {a b:ByteArray} {n:Nat}
theorem dn8 (N:Int) (m:Int) (hm:m≠0) (hw:wrap64 (m - 1)=m - 1) (R:List SFr) (fu:Int) (ev:List SEv) (K:Nat) (h1:sLen R≤700000) (h2:R.length≤700000) (h3:ev.length≤700000) (h4:fu≤700000):sGo (fnC a b N) (K+8) ⟨⟨0,0,[it m]⟩ :: R,fu,ev⟩=sGo (fnC a b N) K ⟨⟨0,10,[it m,it 1,it (m - 1)]⟩ :: R,fu,ev⟩:=by
 have e6:(if m=0 then (1:Int) else 0)=0:=if_neg hm
 rw[show K+8=(K+7)+1 from rfl,sGo_on (s':=⟨⟨0,1,[it m,it m]⟩ :: R,fu,ev⟩) (by simp;omega) rfl rfl rfl];rw[show K+7=(K+6)+1 from rfl,sGo_on (s':=⟨⟨0,2,[it m,it m,it 0]⟩ :: R,fu,ev⟩) (by simp;omega) rfl rfl rfl];rw[show K+6=(K+5)+1 from rfl,sGo_on (s':=⟨⟨0,3,[it m,it (if m=0 then 1 else 0)]⟩ :: R,fu,ev⟩) (by simp;omega) rfl rfl rfl,e6]
 rw[show K+5=(K+4)+1 from rfl,sGo_on (s':=⟨⟨0,if truev (tk (it 0)) then 4 else 6,[it m]⟩ :: R,fu,ev⟩) (by simp;omega) rfl rfl rfl,tru_it,if_neg (by decide)]
 rw[show K+4=(K+3)+1 from rfl,sGo_on (s':=⟨⟨0,7,[it m,it 1]⟩ :: R,fu,ev⟩) (by simp;omega) rfl rfl rfl];rw[show K+3=(K+2)+1 from rfl,sGo_on (s':=⟨⟨0,8,[it m,it 1,it m]⟩ :: R,fu,ev⟩) (by simp;omega) rfl rfl rfl];rw[show K+2=(K+1)+1 from rfl,sGo_on (s':=⟨⟨0,9,[it m,it 1,it m,it 1]⟩ :: R,fu,ev⟩) (by simp;omega) rfl rfl rfl];rw[sGo_on (s':=⟨⟨0,10,[it m,it 1,it (wrap64 (m - 1))]⟩ :: R,fu,ev⟩) (by simp;omega) rfl rfl rfl,hw]
abbrev tk1:SEv:=⟨1,1,nilP⟩
theorem dn2 (N:Int) (m:Int) (R:List SFr) (fu:Int) (ev:List SEv) (K:Nat) (h0:1≤fu) (h1:sLen R≤700000) (h2:R.length≤700000) (h3:ev.length≤700000) (h4:fu≤700000):sGo (fnC a b N) (K+2) ⟨⟨0,10,[it m,it 1,it (m - 1)]⟩ :: R,fu,ev⟩=sGo (fnC a b N) K ⟨⟨0,0,[it (m - 1)]⟩ :: ⟨0,12,[it m,it 1]⟩ :: R,fu - 1,ev++[tk1]⟩:=by
 rw[show K+2=(K+1)+1 from rfl,sGo_on (s':=⟨⟨0,11,[it m,it 1,it (m - 1)]⟩ :: R,fu - 1,ev++[tk1]⟩) (by simp;omega) rfl rfl (by
  show some (SMc.tell _ _)=_;unfold SMc.tell;simp only;rw[if_neg (by omega)])]
 rw[sGo_on (s':=⟨⟨0,0,[it (m - 1)]⟩ :: ⟨0,12,[it m,it 1]⟩ :: R,fu - 1,ev++[tk1]⟩) (by simp;omega) rfl rfl rfl]
theorem dn0 (N:Int) (m:Int) (R:List SFr) (fu:Int) (ev:List SEv) (K:Nat) (h0:fu < 1) (h1:sLen R≤700000) (h2:R.length≤700000) (h3:ev.length≤700000):sGo (fnC a b N) (K+1) ⟨⟨0,10,[it m,it 1,it (m - 1)]⟩ :: R,fu,ev⟩=some (⟨⟨0,11,[it m,it 1,it (m - 1)]⟩ :: R,fu,ev⟩,6) :=
 sGo_end (by decide) (by simp;omega) rfl rfl (by
  show some (SMc.tell _ _)=_;unfold SMc.tell;simp only;rw[if_pos h0])
theorem wrap_sm {x:Int} (h1:-100000≤x) (h2:x≤100000):wrap64 x=x:=by
 unfold wrap64;omega
theorem dnk (hn:n≤2000) (fu:Int) (ev:List SEv) (hev:ev.length≤10) (hfu:fu≤100000):∀ (k K:Nat),k≤n→(k:Int)≤fu→sGo (fnC a b (n:Int)) (K+10 * k) ⟨⟨0,0,[it (n:Int)]⟩ :: pnd n 0,fu,ev⟩=sGo (fnC a b (n:Int)) K ⟨⟨0,0,[it ((n:Int) - k)]⟩ :: pnd n k,fu - k,ev++List.replicate k tk1⟩
 | 0,K,_,_=>by simp
 | k+1,K,h1,h2=>by
  obtain⟨p1,p2⟩:=pnd_len n k;rw[show K+10 * (k+1)=(K+10)+10 * k by omega,dnk hn fu ev hev hfu k (K+10) (by omega) (by omega)];have hl:(ev++List.replicate k tk1).length=ev.length+k:=by simp
  rw[show K+10=(K+2)+8 from rfl,dn8 (n:Int) ((n:Int) - k) (by omega) (wrap_sm (by omega) (by omega)) (pnd n k) _ _ (K+2) (by omega) (by omega) (by omega) (by omega)];rw[dn2 (n:Int) ((n:Int) - k) (pnd n k) _ _ K (by omega) (by omega) (by omega) (by omega) (by omega)];rw[pnd,List.replicate_succ',← List.append_assoc];have e1:(n:Int) - k - 1=(n:Int) - ((k+1:Nat):Int):=by omega
  have e2:fu - k - 1=fu - ((k+1:Nat):Int):=by omega
  rw[e1,e2]
theorem up0 (N:Int) (c:SFr) (R:List SFr) (fu:Int) (ev:List SEv) (K:Nat) (h1:sLen (c :: R)≤700000) (h2:R.length≤700000) (h3:ev.length≤700000) (h4:fu≤700000):sGo (fnC a b N) (K+6) ⟨⟨0,0,[it 0]⟩ :: c :: R,fu,ev⟩=sGo (fnC a b N) K ⟨⟨c.fn,c.pc,c.vs++[it 0]⟩ :: R,fu,ev⟩:=by
 rw[show K+6=(K+5)+1 from rfl,sGo_on (s':=⟨⟨0,1,[it 0,it 0]⟩ :: c :: R,fu,ev⟩) (by simp;omega) rfl rfl rfl];rw[show K+5=(K+4)+1 from rfl,sGo_on (s':=⟨⟨0,2,[it 0,it 0,it 0]⟩ :: c :: R,fu,ev⟩) (by simp;omega) rfl rfl rfl];rw[show K+4=(K+3)+1 from rfl,sGo_on (s':=⟨⟨0,3,[it 0,it 1]⟩ :: c :: R,fu,ev⟩) (by simp;omega) rfl rfl rfl];rw[show K+3=(K+2)+1 from rfl,sGo_on (s':=⟨⟨0,if truev (tk (it 1)) then 4 else 6,[it 0]⟩ :: c :: R,fu,ev⟩) (by simp;omega) rfl rfl rfl,tru_it,if_pos (by decide)]
 rw[show K+2=(K+1)+1 from rfl,sGo_on (s':=⟨⟨0,5,[it 0,it 0]⟩ :: c :: R,fu,ev⟩) (by simp;omega) rfl rfl rfl];rw[sGo_on (s':=⟨⟨c.fn,c.pc,c.vs++[it 0]⟩ :: R,fu,ev⟩) (by simp;omega) rfl rfl rfl]
def pnv (n:Nat) (x:Int):Nat→List SFr
 | 0 => [⟨1,3,[it x]⟩]
 | k+1=>⟨0,12,[it ((n:Int) - k),it 1,it x]⟩ :: pnd n k
theorem upk (hn:n≤2000) (fu:Int) (ev:List SEv) (hev:ev.length≤10000) (hfu:fu≤100000):∀ (k K:Nat) (x:Nat),k≤n→x+k≤10000→sGo (fnC a b (n:Int)) (K+2 * k) ⟨pnv n (x:Int) k,fu,ev⟩=sGo (fnC a b (n:Int)) K ⟨pnv n ((x+k:Nat):Int) 0,fu,ev⟩
 | 0,K,x,_,_=>by simp
 | k+1,K,x,h1,h2=>by
  obtain⟨p1,p2⟩:=pnd_len n k;have e1:wrap64 (1+(x:Int))=((x+1:Nat):Int):=by rw[wrap_sm (by omega) (by omega)];omega
  rw[show K+2 * (k+1)=(K+2 * k)+1+1 by omega,show pnv n (x:Int) (k+1)=⟨0,12,[it ((n:Int) - k),it 1,it (x:Int)]⟩ :: pnd n k from rfl,sGo_on (s':=⟨⟨0,13,[it ((n:Int) - k),it (wrap64 (1+(x:Int)))]⟩ :: pnd n k,fu,ev⟩) (by simp;omega) rfl rfl rfl,e1];cases k with
  | zero =>
   rw[pnd,sGo_on (s':=⟨pnv n ((x+1:Nat):Int) 0,fu,ev⟩) (by simp[sLen];omega) rfl rfl rfl]
  | succ k =>
   obtain⟨q1,q2⟩:=pnd_len n k;have hb9:sLen (⟨0,12,[it ((n:Int) - k),it 1]⟩ :: pnd n k)+2≤800000∧(⟨0,12,[it ((n:Int) - k),it 1]⟩ :: pnd n k:List SFr).length≤800000∧ev.length≤800000∧fu≤800000:=by
    simp only[sLen,List.length_cons,List.length_nil,q1,q2];omega
   rw[pnd];rw[sGo_on (s':=⟨pnv n ((x+1:Nat):Int) (k+1),fu,ev⟩) hb9 rfl rfl rfl];rw[upk hn fu ev hev hfu (k+1) K (x+1) (by omega) (by omega),show x+1+(k+1)=x+(k+1+1) by omega]
abbrev tk2:SEv:=⟨1,2,nilP⟩
theorem mn3 (fu:Int) (K:Nat) (h0:1≤fu) (h4:fu≤700000):sGo (fnC a b (n:Int)) (K+3) ⟨[⟨1,0,[]⟩],fu,[]⟩=sGo (fnC a b (n:Int)) K ⟨⟨0,0,[it (n:Int)]⟩ :: pnd n 0,fu - 1,[tk2]⟩:=by
 rw[show K+3=(K+2)+1 from rfl,sGo_on (s':=⟨[⟨1,1,[it (n:Int)]⟩],fu,[]⟩) (by simp[sLen];omega) rfl rfl rfl];rw[show K+2=(K+1)+1 from rfl,sGo_on (s':=⟨[⟨1,2,[it (n:Int)]⟩],fu - 1,[tk2]⟩) (by simp[sLen];omega) rfl rfl (by
  show some (SMc.tell _ _)=_;unfold SMc.tell;simp only;rw[if_neg (by omega)];rfl)]
 rw[sGo_on (s':=⟨⟨0,0,[it (n:Int)]⟩ :: pnd n 0,fu - 1,[tk2]⟩) (by simp[sLen];omega) rfl rfl rfl]
theorem mn0 (fu:Int) (K:Nat) (h0:fu < 1):sGo (fnC a b (n:Int)) (K+2) ⟨[⟨1,0,[]⟩],fu,[]⟩=some (⟨[⟨1,2,[it (n:Int)]⟩],fu,[]⟩,6):=by
 rw[show K+2=(K+1)+1 from rfl,sGo_on (s':=⟨[⟨1,1,[it (n:Int)]⟩],fu,[]⟩) (by simp[sLen];omega) rfl rfl rfl];exact sGo_end (by decide) (by simp[sLen];omega) rfl rfl (by
  show some (SMc.tell _ _)=_;unfold SMc.tell;simp only;rw[if_pos h0])
theorem calls_ok (hn:n≤2000) (fu:Int) (h1:(n:Int)+1≤fu) (h2:fu≤100000):∃ K s1,K≤100000∧sGo (fnC a b (n:Int)) K ⟨[⟨1,0,[]⟩],fu,[]⟩=some (s1,-1)∧flV s1.fr = [it (n:Int)]∧s1.ev.length=n+1:=by
 obtain⟨p1,p2⟩:=pnd_len n n;refine⟨((1+2 * n)+6+10 * n)+3,⟨[⟨0,0,[it (n:Int)]⟩],fu - 1 - n,[tk2]++List.replicate n tk1⟩,by omega,?_,rfl,by first | (simp;done) | (simp;omega)⟩;rw[mn3 fu _ (by omega) (by omega),dnk hn (fu - 1) [tk2] (by simp) (by omega) n _ (Nat.le_refl n) (by omega),show (n:Int) - (n:Int)=0 by omega];have hp:∃ c R,pnd n n=c :: R∧⟨c.fn,c.pc,c.vs++[it 0]⟩ :: R=pnv n ((0:Nat):Int) n:=by
  cases n with
  | zero=>exact⟨_,_,rfl,rfl⟩
  | succ k=>exact⟨_,_,rfl,rfl⟩
 obtain⟨c,R,e1,e2⟩:=hp;rw[e1] at p1 p2 ⊢;simp only[List.length_cons] at p2;rw[up0 (n:Int) c R _ _ (1+2 * n) (by omega) (by omega) (by simp;omega) (by omega),e2,upk hn _ _ (by simp;omega) (by omega) n 1 0 (Nat.le_refl n) (by omega),Nat.zero_add];exact sGo_end (by decide) (by simp[sLen];omega) rfl rfl rfl
theorem calls_no (hn:n≤2000) (m:Nat) (h1:m < n+1):∃ K s1,K≤100000∧sGo (fnC a b (n:Int)) K ⟨[⟨1,0,[]⟩],(m:Int),[]⟩=some (s1,6)∧s1.ev.length=m:=by
 cases m with
 | zero=>exact⟨0+2,_,by omega,mn0 _ _ (by decide),rfl⟩
 | succ j =>
  obtain⟨p1,p2⟩:=pnd_len n j;refine⟨((0+1)+8+10 * j)+3,⟨⟨0,11,[it ((n:Int) - j),it 1,it ((n:Int) - j - 1)]⟩ :: pnd n j,((j+1:Nat):Int) - 1 - j,[tk2]++List.replicate j tk1⟩,by omega,?_,?_⟩
  ·rw[mn3 _ _ (by omega) (by omega),dnk hn _ [tk2] (by simp) (by omega) j _ (by omega) (by omega),dn8 (n:Int) ((n:Int) - j) (by omega) (wrap_sm (by omega) (by omega)) (pnd n j) _ _ (0+1) (by omega) (by omega) (by simp;omega) (by omega)]
   exact dn0 (n:Int) ((n:Int) - j) (pnd n j) _ _ 0 (by omega) (by omega) (by omega) (by simp;omega)
  ·first | (simp;done) | (simp;omega)
end V
section
def scC:List PSc:=[⟨1,[0,0],[0]⟩,⟨0,[],[0]⟩]
theorem doc_calls (n:Int):docP (fsC n)=(scC,0):=by kernel_rfl
theorem too_calls (n:Int):tooP (fsC n)=false:=by kernel_rfl
theorem main_calls (n:Int):rMain (fsC n) 0 0=1:=by kernel_rfl
theorem gcB_n {n:Nat} (hn:n≤100000):gcB (some (n:Int))=true:=by
 unfold gcB;exact decide_eq_true (by omega)
theorem rG_one {m:RG} (h:m.cs.all gcB=true) (h1:m.code.length≤50000∧m.cs.length≤50000∧0≤m.tk∧m.tk≤50000∧m.sp≤50000∧m.cp≤50000) (h2:m.br = []) (h3:m.nx = []):rG m=some m:=by
 unfold rG;rw[if_pos];unfold RG.ok;rw[h,h2,h3];simp;omega
theorem one_calls (n:Nat) (hn:n≤2000):rOne 60 ⟨⟨#[109,97,105,110]⟩,[],⟨10,0,zE,0,[⟨7,0,zE,0,[⟨20,0,⟨#[102]⟩,0,[nN n]⟩]⟩]⟩⟩ ⟨0,[],[0]⟩ 1=some ⟨[⟨1,0,0⟩,⟨12,2,0⟩,⟨9,0,1⟩,⟨10,0,0⟩,⟨1,1,0⟩,⟨10,0,0⟩],[some (n:Int),none],0,1,2,[],[]⟩:=by
 have hg:=gcB_n (n:=n) (by omega);have a1:[some (n:Int)].all gcB=true:=by simp[hg]
 have a2:[some (n:Int),none].all gcB=true:=by simp[hg];rfl
 have e1:rG ⟨[⟨1,0,0⟩],[some (n:Int)],0,0,1,[],[]⟩=some _:=rG_one a1 (by simp) rfl rfl;have e2:rG ⟨[⟨1,0,0⟩,⟨12,2,0⟩,⟨9,0,1⟩],[some (n:Int)],0,1,2,[],[]⟩=some _:=rG_one a1 (by simp) rfl rfl;have e3:rG ⟨[⟨1,0,0⟩,⟨12,2,0⟩,⟨9,0,1⟩,⟨10,0,0⟩],[some (n:Int)],0,1,2,[],[]⟩=some _:=rG_one a1 (by simp) rfl rfl;have e4:rG ⟨[⟨1,0,0⟩,⟨12,2,0⟩,⟨9,0,1⟩,⟨10,0,0⟩,⟨1,1,0⟩,⟨10,0,0⟩],[some (n:Int),none],0,1,2,[],[]⟩=some _:=rG_one a2 (by simp) rfl rfl;have f1:rN [] [0] 57 (nN n) ⟨[],[],0,0,1,[],[]⟩=some ⟨[⟨1,0,0⟩],[some (n:Int)],0,0,1,[],[]⟩:=e1;have f2:rN [] [0] 58 ⟨20,0,⟨#[102]⟩,0,[nN n]⟩ ⟨[],[],0,0,1,[],[]⟩=some ⟨[⟨1,0,0⟩,⟨12,2,0⟩,⟨9,0,1⟩],[some (n:Int)],0,1,2,[],[]⟩:=by
  rw[show rN [] [0] 58 ⟨20,0,⟨#[102]⟩,0,[nN n]⟩ ⟨[],[],0,0,1,[],[]⟩=rB (rAll (rN [] [0] 57) [nN n] ⟨[],[],0,0,1,[],[]⟩) (fun m1=>rB ([0]:List Int)[m1.cp]? fun k=>if 0≤k∧k≤1000000 then (if k < 1000 then rG (({ m1 with cp:=m1.cp+1 }:RG).tick.add 9 k 1) else rG (({ m1 with cp:=m1.cp+1 }:RG).add 6 (k - 1000) 0)) else none) from rfl]
  rw[rAll,f1];exact e2
 have f3:rN [] [0] 59 ⟨7,0,zE,0,[⟨20,0,⟨#[102]⟩,0,[nN n]⟩]⟩ ⟨[],[],0,0,1,[],[]⟩=some ⟨[⟨1,0,0⟩,⟨12,2,0⟩,⟨9,0,1⟩,⟨10,0,0⟩],[some (n:Int)],0,1,2,[],[]⟩:=by
  rw[show rN [] [0] 59 ⟨7,0,zE,0,[⟨20,0,⟨#[102]⟩,0,[nN n]⟩]⟩ ⟨[],[],0,0,1,[],[]⟩=rB (rAll (rN [] [0] 58) [⟨20,0,⟨#[102]⟩,0,[nN n]⟩] ⟨[],[],0,0,1,[],[]⟩) (fun m1=>rG (m1.add 10 0 0)) from rfl];rw[rAll,f2];exact e3
 have f4:rN [] [0] 60 ⟨10,0,zE,0,[⟨7,0,zE,0,[⟨20,0,⟨#[102]⟩,0,[nN n]⟩]⟩]⟩ ⟨[],[],0,0,1,[],[]⟩=some ⟨[⟨1,0,0⟩,⟨12,2,0⟩,⟨9,0,1⟩,⟨10,0,0⟩],[some (n:Int)],0,1,2,[],[]⟩:=by
  rw[show rN [] [0] 60 ⟨10,0,zE,0,[⟨7,0,zE,0,[⟨20,0,⟨#[102]⟩,0,[nN n]⟩]⟩]⟩ ⟨[],[],0,0,1,[],[]⟩=rAll (rN [] [0] 59) [⟨7,0,zE,0,[⟨20,0,⟨#[102]⟩,0,[nN n]⟩]⟩] ⟨[],[],0,0,1,[],[]⟩ from rfl];rw[rAll,f3];rfl
 unfold rOne;simp only;rw[f4];exact e4
theorem onef_calls:rOne 60 ⟨⟨#[102]⟩,[⟨#[110]⟩],⟨10,0,zE,0,[⟨3,0,zE,0,[⟨11,6,zE,0,[vN,nN 0]⟩,⟨10,0,zE,0,[⟨7,0,zE,0,[nN 0]⟩]⟩]⟩,⟨7,0,zE,0,[⟨11,1,zE,0,[nN 1,⟨20,0,⟨#[102]⟩,0,[⟨11,2,zE,0,[vN,nN 1]⟩]⟩]⟩]⟩]⟩⟩ ⟨1,[0,0],[0]⟩ 0=some ⟨V.cdF,[some 0,some 1,none],2,1,1,[],[]⟩:=by kernel_rfl
abbrev nmF:ByteArray:=⟨#[102]⟩
abbrev nmM:ByteArray:=⟨#[109,97,105,110]⟩
theorem fns_calls (n:Nat) (hn:n≤2000):rFns 60 (fsC n) scC 0 []=some (V.fnC nmF nmM (n:Int)):=by
 unfold fsC scC;rw[rFns,onef_calls];simp only;rw[if_pos (by decide),rFns,one_calls n hn];simp only;rw[if_pos (by decide),rFns];rfl
theorem sz_lit (a:Array UInt8):(⟨a⟩:ByteArray).size=a.size:=rfl
theorem form_calls (n:Int):(∀ p ∈ fsC n,gX p.bd∧p.ps.length≤1000∧nsz p.bd≤5000)∧(fsC n).length≤16:=by
 refine⟨fun p hp => ?_,by simp[fsC]⟩;rcases List.mem_cons.1 hp with rfl | hp
 ·refine⟨⟨20,?_⟩,by simp,by simp[nsz,nszL,vN,nN]⟩
  simp[gXf,vN,nN,sz_lit]
 rcases List.mem_cons.1 hp with rfl | hp
 ·refine⟨⟨20,?_⟩,by simp,by simp[nsz,nszL,vN,nN]⟩
  simp[gXf,vN,nN,sz_lit]
 ·cases hp
theorem hgt_calls0 (a b:ByteArray) (n:Int):V.kHgt (V.fnC a b n) 0 1000=some ([0,1,2,1,0,1,0,1,2,3,2,2,2,1,-1,-1],0):=by kernel_rfl
theorem hgt_calls1 (a b:ByteArray) (n:Int):V.kHgt (V.fnC a b n) 1 1000=some ([0,1,1,1,-1,-1],0):=by kernel_rfl
theorem chk_calls (a b:ByteArray) (n:Int):V.kChk (V.fnC a b n) 1 1000=some 0:=by kernel_rfl
theorem bnd_code {l:List V.KI} (h:l.all (fun i=>decide (-100000≤i.a∧i.a≤100000∧-100000≤i.b∧i.b≤100000))=true):V.KBd l:=by
 intro i hi;have:=List.all_eq_true.1 h i hi;simp only[decide_eq_true_eq] at this;omega
theorem kfb_calls (a b:ByteArray) (n:Int):V.KfB (V.fnC a b n):=by
 intro f hf;rcases List.mem_cons.1 hf with rfl | hf
 ·exact⟨by show 3≤1000000;omega,by show 16≤1000000;omega,bnd_code (l:=V.cdF) (by decide)⟩
 rcases List.mem_cons.1 hf with rfl | hf
 ·exact⟨by show 2≤1000000;omega,by show 6≤1000000;omega,bnd_code (l:=V.cdM) (by decide)⟩
 ·cases hf
theorem lf_gcP (l:List (Option Int)):∀ c ∈ l.map gcP,∃ v,c=V.gi v:=by
 intro c hc;obtain⟨v,_,rfl⟩:=List.mem_map.1 hc;cases v with
 | none=>exact⟨none,rfl⟩
 | some n=>exact⟨some n,rfl⟩
theorem hv_calls (a b:ByteArray) (n:Int) (z:Nat) (q:V.KF) (h:(V.fnC a b n)[z]? = some q):V.HdOk q∧∃ hs:List Int,hs.length=q.code.length∧V.kHgt (V.fnC a b n) (z:Int) 1000=some (hs,0):=by
 match z,h with
 | 0,h =>
  injection h with h;subst h;exact⟨⟨lf_gcP [some 0,some 1,none],rfl,by show (1:Int)≤1;omega,by show (1:Int)≤64;omega,by show 0 < 16;omega,by show 16≤1000;omega⟩,_,rfl,hgt_calls0 a b n⟩
 | 1,h =>
  injection h with h;subst h;exact⟨⟨lf_gcP [some n,none],rfl,by show (0:Int)≤0;omega,by show (0:Int)≤64;omega,by show 0 < 6;omega,by show 6≤1000;omega⟩,_,rfl,hgt_calls1 a b n⟩
 | z+2,h=>cases h
end
end Go.Proofs.YtdnclahaejlehaaGreat
