/- What is read of a text,by the faster lexer. -/
import Derived.Test.YtdnclahaejlehaaGreatZk41
import Derived.Test.YtdnclahaejlehaaGreatZl4
set_option linter.unusedSimpArgs false
set_option linter.unusedVariables false
set_option maxRecDepth 10000
set_option maxHeartbeats 2000000
namespace Go.Proofs.YtdnclahaejlehaaGreat
open Go.RowKit
section
theorem qN (l:List UInt8):(⟨l.toArray⟩:ByteArray).size=l.length:=by
 show l.toArray.size=_;simp
def begL (l:List UInt8):PS:=if 4000 < l.length then ⟨[],0,0,2⟩ else match (lexL (l.length+1) (l.length+1) l 0).2 with
 | some b=>⟨[],0,(b:Nat),10⟩
 | none=>⟨(lexL (l.length+1) (l.length+1) l 0).1,0,0,0⟩
theorem begP_L (l:List UInt8):begP ⟨l.toArray⟩=begL l:=by
 unfold begP begL;rw[lexF_L _ _ _ (Nat.zero_le _),qN,L_mk,List.drop_zero];rfl
def rdL (l:List UInt8) (F:Nat):List PFn × PS:=funsP l.length (stsP l.length F F).2.1 F F [] (begL l)
theorem rdP_L (l:List UInt8) (F:Nat):rdP ⟨l.toArray⟩ F=rdL l F:=by
 unfold rdP rdL;rw[begP_L,qN]
end
section
structure Dgs (t:ByteArray) (n:Nat):Prop where
 all:∀ c ∈ L t,dg c=true
 ne:L t≠[]
 val:dv 0 (L t)=n
def dgt (d:Nat):UInt8:=UInt8.ofNat (48+d)
theorem tab_cut:∀ d,d < 10→({ data:=#[48,49,50,51,52,53,54,55,56,57] }:ByteArray).extract d (d+1)=⟨#[dgt d]⟩:=by decide
theorem dig_of:∀ d,d < 10→dg (dgt d)=true∧(dgt d).toNat - 48=d:=by decide
theorem qy (n:Nat) (w:World) (hn:n≤9223372036854775807) :
  Calls Tryz.prog 7 #[.int .i64 n] w fun e w' => ∃ t:ByteArray,e = .returned (.string t)∧Dgs t n∧t.size≤20∧w' = w:=by
 go_enter Tryz.func7,Tryz.ntmps7
 have hmin:((n:Int) == -9223372036854775808)=false:=by simp
 go_wp2
 go_loop [0,3] (fun x v => ∃ (m k:Nat) (t:ByteArray),x = .int .i64 m∧v = .string t∧t.size=k∧m≤n∧(k=0∨1≤m)∧Hd (m * 10 ^ k≤n∧(∀ c ∈ L t,dg c=true)∧dv m (L t)=n)) (fun x _=>(intOf x).toNat)
 case atStart=>exact⟨n,0,_,rfl,rfl,rfl,Nat.le_refl _,Or.inl rfl,⟨by rw[Nat.pow_zero,Nat.mul_one];exact Nat.le_refl _,(fun c hc=>by cases hc),rfl⟩⟩
 case round =>
  obtain⟨m,k,t,rfl,rfl,hk,hm,hp,hI⟩:=hrel;have hsz:t.size≤19:=by
   rcases Nat.lt_or_ge k 20 with h | h
   ·omega
   ·have h1:=(zu hI).1
    have h2:10 ^ 20≤10 ^ k:=Nat.pow_le_pow_right (by decide) h;have h3:m * 10 ^ 20≤m * 10 ^ k:=Nat.mul_le_mul_left m h2;have h4:(10:Nat) ^ 20=100000000000000000000:=rfl;omega
  have hkk:=zh hk;clear hk;by_cases hlt:9 < m
  ·obtain⟨d,hd⟩:∃ d,d=m % 10:=⟨_,rfl⟩
   have hd10:d < 10:=by rw[hd];exact Nat.mod_lt _ (by decide)
   have ht:=tab_cut d hd10;have hmod:(m:Int) % 10=(d:Int):=by omega
   have hN:Hd (m / 10 * 10 ^ (k+1)≤n∧(∀ c ∈ L (({ data:=#[dgt d] }:ByteArray)++t),dg c=true)∧dv (m / 10) (L (({ data:=#[dgt d] }:ByteArray)++t))=n):=by
    obtain⟨h1,h2,h3⟩:=zu hI;obtain⟨g1,g2⟩:=dig_of d hd10;rw[L_append];refine⟨?_,?_,?_⟩
    ·refine Nat.le_trans ?_ h1
     rw[Nat.pow_succ,Nat.mul_comm (10 ^ k) 10,← Nat.mul_assoc];exact Nat.mul_le_mul_right _ (Nat.div_mul_le_self m 10)
    ·intro c hc
     rcases List.mem_append.1 hc with hc | hc
     ·rw[List.mem_singleton.1 (show c ∈ [dgt d] from hc)];exact g1
     ·exact h2 c hc
    ·show dv (m / 10) (dgt d :: L t)=n
     rw[dv_cons,g2,hd,show m / 10 * 10+m % 10=m by omega];exact h3
   have hz:Hd ((({ data:=#[dgt d] }:ByteArray)++t).size=k+1):=by rw[ByteArray.size_append,zu hkk];show 1+k=_;omega
   clear hd
   go_wp2
   go_round
   case rel=>exact⟨m / 10,k+1,_,by go_num,rfl,zu hz,by omega,by omega,hN⟩
   case measure=>simp[intOf];omega
  ·have hF:Hd (Dgs (({ data:=#[dgt m] }:ByteArray)++t) n∧(({ data:=#[dgt m] }:ByteArray)++t).size≤20):=by
    obtain⟨h1,h2,h3⟩:=zu hI;obtain⟨g1,g2⟩:=dig_of m (by omega);refine⟨⟨?_,?_,?_⟩,?_⟩
    ·rw[L_append]
     intro c hc;rcases List.mem_append.1 hc with hc | hc
     ·rw[List.mem_singleton.1 (show c ∈ [dgt m] from hc)];exact g1
     ·exact h2 c hc
    ·rw[L_append];simp[L]
    ·rw[L_append]
     show dv 0 (dgt m :: L t)=n;rw[dv_cons,g2,Nat.zero_mul,Nat.zero_add];exact h3
    ·rw[ByteArray.size_append];show 1+t.size≤20;omega
   have ht:=tab_cut m (by omega)
   go_wp2
   go_ret;exact⟨_,rfl,(zu hF).1,(zu hF).2,rfl⟩
end
section
theorem lex_dgs (F f:Nat) (ds:List UInt8) (c:UInt8) (rest:List UInt8) (o:Nat) (h:∀ x ∈ ds,dg x=true) (hne:ds≠[]) (hv:dv 0 ds≤9223372036854775807) (hd:dg c=false) (hn:nm c=false) (hi:c≠105):lexL F (f+1) (ds++c :: rest) o=(⟨3,⟨#[]⟩,((dv 0 ds:Nat):Int),o⟩ :: (lexL F f (c :: rest) (o+ds.length)).1,(lexL F f (c :: rest) (o+ds.length)).2):=by
 have hrun:run dg (ds++c :: rest)=ds.length:=run_all ds _ h (fun x hx=>by simp at hx;subst hx;exact hd);have hdr:(ds++c :: rest).drop ds.length=c :: rest:=by simp
 have htk:(ds++c :: rest).take ds.length=ds:=by simp
 have hg:(ds++c :: rest)[ds.length]? = some c:=by simp
 obtain⟨d,r,e⟩:∃ d r,ds=d :: r:=by
  cases ds with
  | nil=>exact absurd rfl hne
  | cons d r=>exact⟨d,r,rfl⟩
 have hdd:dg d=true:=h d (by rw[e];simp);have hcn:=(dg_iff d).1 hdd;have hb:bl d=false:=by rw[← Bool.not_eq_true,bl_iff];omega
 have hl:ds++c :: rest=d :: (r++c :: rest):=by rw[e];rfl
 have hsk:skp false (ds++c :: rest)=0:=by rw[hl,skp,hb,if_neg (by decide),if_neg (by omega)]
 have htok:tokL F (ds++c :: rest)=some (3,[],((dv 0 ds:Nat):Int),ds.length):=by
  rw[hl,tokL,if_pos hdd,← hl,hrun];unfold numL;rw[htk,hg,if_neg (by omega),if_neg (by simpa using hi)];simp[hn]
 rw[lexL,hsk,List.drop_zero,Nat.add_zero];rw[hl] at htok hdr ⊢;simp only;rw[htok];simp only;rw[hdr]
def nN (k:Int):PN:=⟨15,0,zE,k,[]⟩
def vN:PN:=⟨19,0,⟨#[110]⟩,0,[]⟩
end
namespace V
theorem tru_it (x:Int):truev (tk (it x))=decide (x≠0):=by
 have h:tk (it x)=it x:=by unfold tk;rw[okv_it,if_pos rfl]
 rw[h];unfold truev it;simp only;rw[decide_eq_decide];constructor
 ·intro h1 h2;exact h1 ⟨h2,⟨ord00,ord00⟩,empty_list,rfl⟩
 ·intro h1 h2;exact h1 h2.1
theorem sGo_on {fns:List KF} {k:Nat} {c:SFr} {r:List SFr} {fu:Int} {ev:List SEv} {f:KF} {i:KI} {s':SMc} (hb:sLen r+c.vs.length≤800000∧r.length≤800000∧ev.length≤800000∧fu≤800000) (hf:fns[c.fn]? = some f) (hi:f.code[c.pc]? = some i) (h:sIns fns f i c r ⟨c :: r,fu,ev⟩=some (s',0)):sGo fns (k+1) ⟨c :: r,fu,ev⟩=sGo fns k s':=by
 rw[sGo];have h1:sStp fns ⟨c :: r,fu,ev⟩=some (s',0):=by
  unfold sStp;rw[if_neg (by simp only[sLen,List.length_cons];omega)];unfold sStep;simp only;rw[if_neg (by simp only[sLen,List.length_cons];omega),hf];simp only;rw[hi];exact h
 rw[h1];simp
theorem sGo_end {fns:List KF} {k:Nat} {c:SFr} {r:List SFr} {fu:Int} {ev:List SEv} {f:KF} {i:KI} {s':SMc} {e:Int} (he:e≠0) (hb:sLen r+c.vs.length≤800000∧r.length≤800000∧ev.length≤800000∧fu≤800000) (hf:fns[c.fn]? = some f) (hi:f.code[c.pc]? = some i) (h:sIns fns f i c r ⟨c :: r,fu,ev⟩=some (s',e)):sGo fns (k+1) ⟨c :: r,fu,ev⟩=some (s',e):=by
 rw[sGo];have h1:sStp fns ⟨c :: r,fu,ev⟩=some (s',e):=by
  unfold sStp;rw[if_neg (by simp only[sLen,List.length_cons];omega)];unfold sStep;simp only;rw[if_neg (by simp only[sLen,List.length_cons];omega),hf];simp only;rw[hi];exact h
 rw[h1];simp[he]
variable {a b:ByteArray} {n:Nat}
abbrev tk1:SEv:=⟨1,1,nilP⟩
theorem wrap_sm {x:Int} (h1:-100000≤x) (h2:x≤100000):wrap64 x=x:=by
 unfold wrap64;omega
end V
section
theorem qj {n:Nat} (hn:n≤100000):gcB (some (n:Int))=true:=by
 unfold gcB;exact decide_eq_true (by omega)
abbrev nmM:ByteArray:=⟨#[109,97,105,110]⟩
theorem sz_lit (a:Array UInt8):(⟨a⟩:ByteArray).size=a.size:=rfl
theorem bnd_code {l:List V.KI} (h:l.all (fun i=>decide (-100000≤i.a∧i.a≤100000∧-100000≤i.b∧i.b≤100000))=true):V.KBd l:=by
 intro i hi;have:=List.all_eq_true.1 h i hi;simp only[decide_eq_true_eq] at this;omega
theorem lf_gcP (l:List (Option Int)):∀ c ∈ l.map gcP,∃ v,c=V.gi v:=by
 intro c hc;obtain⟨v,_,rfl⟩:=List.mem_map.1 hc;cases v with
 | none=>exact⟨none,rfl⟩
 | some n=>exact⟨some n,rfl⟩
end
end Go.Proofs.YtdnclahaejlehaaGreat
