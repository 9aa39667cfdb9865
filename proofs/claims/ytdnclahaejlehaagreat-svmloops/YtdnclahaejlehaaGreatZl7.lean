/- The text of SvmLoops: its words,what is read of it;both numbers variables. -/
import Derived.Test.YtdnclahaejlehaaGreatZl6
import Derived.Test.YtdnclahaejlehaaGreatZl5
import Derived.Test.YtdnclahaejlehaaGreatZk21
set_option linter.unusedSimpArgs false
set_option linter.unusedVariables false
set_option maxRecDepth 10000
set_option maxHeartbeats 2000000
namespace Go.Proofs.YtdnclahaejlehaaGreat
open Go.RowKit
section
theorem qA (F f:Nat) (rest:List UInt8) (o:Nat):lexL F (f+1) (32 :: rest) o=lexL F (f+1) rest (o+1):=by
 rw[lexL,lexL];have h:skp false (32 :: rest)=1+skp false rest:=by rw[skp,if_pos (by decide)]
 rw[h,Nat.add_comm 1,List.drop_succ_cons];have e:o+(skp false rest+1)=o+1+skp false rest:=by omega
 rw[e]
def qD:List UInt8:=[102,110,32,109,97,105,110,32,40,32,41,32,123,32,108,101,116,32,105,32,61,32,48,32,59,32,108,101,116,32,107,32,61,32,48,32,59,32,119,104,105,108,101,32,105,32,60,32]
def qr:List UInt8:=[32,123,32,105,32,61,32,105,32,43,32,49,32,59,32,105,102,32,105,32,61,61,32]
def howU:Nat→List UInt8
 | 0 => [98,114,101,97,107,32,59,32]
 | 1 => [99,111,110,116,105,110,117,101,32,59,32]
 | 2 => [114,101,116,117,114,110,32,107,32,59,32]
 | _ => []
def qE (h:Nat):List UInt8:=[32,123,32]++(howU h++[125,32,107,32,61,32,107,32,43,32,49,32,59,32,125,32,114,101,116,117,114,110,32,107,32,59,32,125])
def tkU1:List Tk:=[⟨2,⟨#[102,110]⟩,0,0⟩,⟨1,⟨#[109,97,105,110]⟩,0,3⟩,⟨6,⟨#[40]⟩,0,8⟩,⟨6,⟨#[41]⟩,0,10⟩,⟨6,⟨#[123]⟩,0,12⟩,⟨2,⟨#[108,101,116]⟩,0,14⟩,⟨1,⟨#[105]⟩,0,18⟩,⟨6,⟨#[61]⟩,0,20⟩,⟨3,⟨#[]⟩,0,22⟩,⟨6,⟨#[59]⟩,0,24⟩,⟨2,⟨#[108,101,116]⟩,0,26⟩,⟨1,⟨#[107]⟩,0,30⟩,⟨6,⟨#[61]⟩,0,32⟩,⟨3,⟨#[]⟩,0,34⟩,⟨6,⟨#[59]⟩,0,36⟩,⟨2,⟨#[119,104,105,108,101]⟩,0,38⟩,⟨1,⟨#[105]⟩,0,44⟩,⟨6,⟨#[60]⟩,0,46⟩]
def tkU2 (o:Nat):List Tk:=[⟨6,⟨#[123]⟩,0,o+1⟩,⟨1,⟨#[105]⟩,0,o+3⟩,⟨6,⟨#[61]⟩,0,o+5⟩,⟨1,⟨#[105]⟩,0,o+7⟩,⟨6,⟨#[43]⟩,0,o+9⟩,⟨3,⟨#[]⟩,1,o+11⟩,⟨6,⟨#[59]⟩,0,o+13⟩,⟨2,⟨#[105,102]⟩,0,o+15⟩,⟨1,⟨#[105]⟩,0,o+18⟩,⟨6,⟨#[61,61]⟩,0,o+20⟩]
def tkU3:Nat→Nat→List Tk
 | 0,o => [⟨6,⟨#[123]⟩,0,o+1⟩,⟨2,⟨#[98,114,101,97,107]⟩,0,o+3⟩,⟨6,⟨#[59]⟩,0,o+9⟩,⟨6,⟨#[125]⟩,0,o+11⟩,⟨1,⟨#[107]⟩,0,o+13⟩,⟨6,⟨#[61]⟩,0,o+15⟩,⟨1,⟨#[107]⟩,0,o+17⟩,⟨6,⟨#[43]⟩,0,o+19⟩,⟨3,⟨#[]⟩,1,o+21⟩,⟨6,⟨#[59]⟩,0,o+23⟩,⟨6,⟨#[125]⟩,0,o+25⟩,⟨2,⟨#[114,101,116,117,114,110]⟩,0,o+27⟩,⟨1,⟨#[107]⟩,0,o+34⟩,⟨6,⟨#[59]⟩,0,o+36⟩,⟨6,⟨#[125]⟩,0,o+38⟩]
 | 1,o => [⟨6,⟨#[123]⟩,0,o+1⟩,⟨2,⟨#[99,111,110,116,105,110,117,101]⟩,0,o+3⟩,⟨6,⟨#[59]⟩,0,o+12⟩,⟨6,⟨#[125]⟩,0,o+14⟩,⟨1,⟨#[107]⟩,0,o+16⟩,⟨6,⟨#[61]⟩,0,o+18⟩,⟨1,⟨#[107]⟩,0,o+20⟩,⟨6,⟨#[43]⟩,0,o+22⟩,⟨3,⟨#[]⟩,1,o+24⟩,⟨6,⟨#[59]⟩,0,o+26⟩,⟨6,⟨#[125]⟩,0,o+28⟩,⟨2,⟨#[114,101,116,117,114,110]⟩,0,o+30⟩,⟨1,⟨#[107]⟩,0,o+37⟩,⟨6,⟨#[59]⟩,0,o+39⟩,⟨6,⟨#[125]⟩,0,o+41⟩]
 | 2,o => [⟨6,⟨#[123]⟩,0,o+1⟩,⟨2,⟨#[114,101,116,117,114,110]⟩,0,o+3⟩,⟨1,⟨#[107]⟩,0,o+10⟩,⟨6,⟨#[59]⟩,0,o+12⟩,⟨6,⟨#[125]⟩,0,o+14⟩,⟨1,⟨#[107]⟩,0,o+16⟩,⟨6,⟨#[61]⟩,0,o+18⟩,⟨1,⟨#[107]⟩,0,o+20⟩,⟨6,⟨#[43]⟩,0,o+22⟩,⟨3,⟨#[]⟩,1,o+24⟩,⟨6,⟨#[59]⟩,0,o+26⟩,⟨6,⟨#[125]⟩,0,o+28⟩,⟨2,⟨#[114,101,116,117,114,110]⟩,0,o+30⟩,⟨1,⟨#[107]⟩,0,o+37⟩,⟨6,⟨#[59]⟩,0,o+39⟩,⟨6,⟨#[125]⟩,0,o+41⟩]
 | _,o => [⟨6,⟨#[123]⟩,0,o+1⟩,⟨6,⟨#[125]⟩,0,o+3⟩,⟨1,⟨#[107]⟩,0,o+5⟩,⟨6,⟨#[61]⟩,0,o+7⟩,⟨1,⟨#[107]⟩,0,o+9⟩,⟨6,⟨#[43]⟩,0,o+11⟩,⟨3,⟨#[]⟩,1,o+13⟩,⟨6,⟨#[59]⟩,0,o+15⟩,⟨6,⟨#[125]⟩,0,o+17⟩,⟨2,⟨#[114,101,116,117,114,110]⟩,0,o+19⟩,⟨1,⟨#[107]⟩,0,o+26⟩,⟨6,⟨#[59]⟩,0,o+28⟩,⟨6,⟨#[125]⟩,0,o+30⟩]
theorem lex_preU (F f:Nat) (rest:List UInt8):lexL F (f+1+18) (qD++rest) 0=(tkU1++(lexL F (f+1) rest 48).1,(lexL F (f+1) rest 48).2):=by
 have h:lexL F (f+1+18) (qD++rest) 0=(tkU1++(lexL F (f+1) (32 :: rest) 47).1,(lexL F (f+1) (32 :: rest) 47).2):=by kernel_rfl
 rw[h,qA]
theorem lex_midU (F f o:Nat) (rest:List UInt8):lexL F (f+1+10) (qr++rest) o=(tkU2 o++(lexL F (f+1) rest (o+23)).1,(lexL F (f+1) rest (o+23)).2):=by
 have h:lexL F (f+1+10) (qr++rest) o=(tkU2 o++(lexL F (f+1) (32 :: rest) (o+22)).1,(lexL F (f+1) (32 :: rest) (o+22)).2):=by kernel_rfl
 rw[h,qA]
theorem lex_endU0 (F f o:Nat):lexL F (f+17) (qE 0) o=(tkU3 0 o,none):=by kernel_rfl
theorem lex_endU1 (F f o:Nat):lexL F (f+17) (qE 1) o=(tkU3 1 o,none):=by kernel_rfl
theorem lex_endU2 (F f o:Nat):lexL F (f+17) (qE 2) o=(tkU3 2 o,none):=by kernel_rfl
theorem lex_endU3 (F f o:Nat):lexL F (f+17) (qE 3) o=(tkU3 3 o,none):=by kernel_rfl
theorem lex_endU (F f o h:Nat) (hh:h < 4):lexL F (f+17) (qE h) o=(tkU3 h o,none):=by
 rcases (show h=0∨h=1∨h=2∨h=3 by omega) with rfl | rfl | rfl | rfl
 ·exact lex_endU0 F f o
 ·exact lex_endU1 F f o
 ·exact lex_endU2 F f o
 ·exact lex_endU3 F f o
theorem endU_cons (h:Nat):∃ r,qE h=32 :: r:=⟨_,rfl⟩
theorem endU_len (h:Nat) (hh:h < 4):31≤(qE h).length∧(qE h).length≤42:=by
 rcases (show h=0∨h=1∨h=2∨h=3 by omega) with rfl | rfl | rfl | rfl <;> decide
def txU (h:Nat) (ds es:List UInt8):List UInt8:=qD++(ds++(qr++(es++qE h)))
def tkU (h:Nat) (n a:Int) (x y:Nat):List Tk:=tkU1++⟨3,⟨#[]⟩,n,48⟩ :: (tkU2 x++⟨3,⟨#[]⟩,a,x+23⟩ :: tkU3 h y)
theorem lex_loops (F f h n a:Nat) (hh:h < 4) (ds es:List UInt8) (h1:∀ x ∈ ds,dg x=true) (h2:ds≠[]) (h3:dv 0 ds=n) (h4:n≤100000) (k1:∀ x ∈ es,dg x=true) (k2:es≠[]) (k3:dv 0 es=a) (k4:a≤100000):∃ x y,lexL F (f+47) (txU h ds es) 0=(tkU h n a x y,none):=by
 obtain⟨r,hr⟩:=endU_cons h;refine⟨48+ds.length,48+ds.length+23+es.length,?_⟩;have hm:qr=32 :: qr.tail:=rfl;unfold txU;rw[show f+47=(f+28)+1+18 by omega,lex_preU,hm,List.cons_append,lex_dgs F (f+28) ds 32 _ 48 h1 h2 (by omega) (by decide) (by decide) (by decide),← List.cons_append,← hm,show f+28=(f+17)+1+10 by omega,lex_midU,hr,lex_dgs F (f+17) es 32 r _ k1 k2 (by omega) (by decide) (by decide) (by decide),← hr,lex_endU F f _ h hh,h3,k3];rfl
theorem txU_len (h:Nat) (hh:h < 4) (ds es:List UInt8):102+ds.length+es.length≤(txU h ds es).length∧(txU h ds es).length≤113+ds.length+es.length:=by
 have e:=endU_len h hh;have e1:qD.length=48:=rfl;have e2:qr.length=23:=rfl;unfold txU;simp only[List.length_append,e1,e2];omega
theorem beg_loops (h n a:Nat) (hh:h < 4) (ds es:List UInt8) (h1:∀ x ∈ ds,dg x=true) (h2:ds≠[]) (h3:dv 0 ds=n) (h4:n≤100000) (h5:ds.length≤20) (k1:∀ x ∈ es,dg x=true) (k2:es≠[]) (k3:dv 0 es=a) (k4:a≤100000) (k5:es.length≤20):∃ x y,begL (txU h ds es)=⟨tkU h n a x y,0,0,0⟩:=by
 obtain⟨l1,l2⟩:=txU_len h hh ds es;obtain⟨F,hF⟩:∃ F,(txU h ds es).length+1=F+47:=⟨(txU h ds es).length+1 - 47,by omega⟩;obtain⟨x,y,e⟩:=lex_loops (F+47) F h n a hh ds es h1 h2 h3 h4 k1 k2 k3 k4;refine⟨x,y,?_⟩;unfold begL;rw[if_neg (by omega),hF,e]
def vI:PN:=⟨19,0,⟨#[105]⟩,0,[]⟩
def vK:PN:=⟨19,0,⟨#[107]⟩,0,[]⟩
def blkM (l:List PN):PN:=⟨10,0,zE,0,l⟩
def opM (o:Int) (p q:PN):PN:=⟨11,o,zE,0,[p,q]⟩
def howN:Nat→List PN
 | 0 => [⟨5,0,zE,0,[]⟩]
 | 1 => [⟨6,0,zE,0,[]⟩]
 | 2 => [⟨7,0,zE,0,[vK]⟩]
 | _ => []
def bdU (h:Nat) (n a:Int):PN:=blkM [⟨1,0,⟨#[105]⟩,0,[nN 0]⟩,⟨1,0,⟨#[107]⟩,0,[nN 0]⟩,⟨4,0,zE,0,[opM 8 vI (nN n),blkM [⟨2,0,⟨#[105]⟩,0,[opM 1 vI (nN 1)]⟩,⟨3,0,zE,0,[opM 6 vI (nN a),blkM (howN h)]⟩,⟨2,0,⟨#[107]⟩,0,[opM 1 vK (nN 1)]⟩]]⟩,⟨7,0,zE,0,[vK]⟩]
def fsU (h:Nat) (n a:Int):List PFn:=[⟨⟨#[109,97,105,110]⟩,[],bdU h n a⟩]
theorem funs_loops0 (len:Nat) (n a:Int) (x y:Nat):funsP len (stsP len 70 70).2.1 70 70 [] ⟨tkU 0 n a x y,0,0,0⟩=(fsU 0 n a,⟨[],0,0,0⟩):=by kernel_rfl
theorem funs_loops1 (len:Nat) (n a:Int) (x y:Nat):funsP len (stsP len 70 70).2.1 70 70 [] ⟨tkU 1 n a x y,0,0,0⟩=(fsU 1 n a,⟨[],0,0,0⟩):=by kernel_rfl
theorem funs_loops2 (len:Nat) (n a:Int) (x y:Nat):funsP len (stsP len 70 70).2.1 70 70 [] ⟨tkU 2 n a x y,0,0,0⟩=(fsU 2 n a,⟨[],0,0,0⟩):=by kernel_rfl
theorem funs_loops3 (len:Nat) (n a:Int) (x y:Nat):funsP len (stsP len 70 70).2.1 70 70 [] ⟨tkU 3 n a x y,0,0,0⟩=(fsU 3 n a,⟨[],0,0,0⟩):=by kernel_rfl
theorem lt70 {l:List Tk} {k:Nat} (h:l.length=k) (hk:k < 70):l.length < 70:=by rw[h];exact hk
theorem rd_loops (h n a:Nat) (hh:h < 4) (ds es:List UInt8) (h1:∀ x ∈ ds,dg x=true) (h2:ds≠[]) (h3:dv 0 ds=n) (h4:n≤100000) (h5:ds.length≤20) (k1:∀ x ∈ es,dg x=true) (k2:es≠[]) (k3:dv 0 es=a) (k4:a≤100000) (k5:es.length≤20):rdL (txU h ds es) 70=(fsU h n a,⟨[],0,0,0⟩)∧(begL (txU h ds es)).ts.length < 70:=by
 obtain⟨x,y,e⟩:=beg_loops h n a hh ds es h1 h2 h3 h4 h5 k1 k2 k3 k4 k5;unfold rdL;rw[e];rcases (show h=0∨h=1∨h=2∨h=3 by omega) with rfl | rfl | rfl | rfl
 ·exact⟨funs_loops0 _ _ _ _ _,lt70 (k:=45) rfl (by decide)⟩
 ·exact⟨funs_loops1 _ _ _ _ _,lt70 (k:=45) rfl (by decide)⟩
 ·exact⟨funs_loops2 _ _ _ _ _,lt70 (k:=46) rfl (by decide)⟩
 ·exact⟨funs_loops3 _ _ _ _ _,lt70 (k:=43) rfl (by decide)⟩
end
section
theorem gIx_at (v:Option Int):∀ (l:List (Option Int)) (k i:Nat),gIx v l k=some i→∃ j,i=k+j∧l[j]? = some v
 | [],k,i,h=>by cases h
 | x :: r,k,i,h=>by
  rw[gIx] at h
  split at h
  ·rename_i hx
   injection h with h;exact⟨0,h.symm,by rw[hx];rfl⟩
  ·obtain⟨j,h1,h2⟩:=gIx_at v r (k+1) i h
   exact⟨j+1,by omega,h2⟩
theorem qB (v:Option Int) (hv:gcB v=true) (code:List V.KI) (cs:List (Option Int)) (sp cp:Nat) (tk:Int) (br nx:List Nat) (h:cs.all gcB=true):∃ (i:Nat) (cs':List (Option Int)),(⟨code,cs,sp,cp,tk,br,nx⟩:RG).cst v=⟨code++[⟨1,(i:Int),0⟩],cs',sp,cp,tk,br,nx⟩∧cs'[i]? = some v∧(∀ (j:Nat) (x:Option Int),cs[j]? = some x→cs'[j]? = some x)∧cs'.all gcB=true∧cs'.length≤cs.length+1:=by
 unfold RG.cst;cases hg:gIx v cs 0 with
 | some i =>
  obtain⟨j,h1,h2⟩:=gIx_at v cs 0 i hg;refine⟨i,cs,rfl,?_,fun _ _ h=>h,h,Nat.le_succ _⟩;rw[h1,Nat.zero_add];exact h2
 | none =>
  refine⟨cs.length,cs++[v],rfl,by simp,fun j x hj => ?_,by simp[h,hv],by simp⟩;rw[List.getElem?_append_left (List.getElem?_eq_some_iff.1 hj).1];exact hj
theorem rGx {code:List V.KI} {cs:List (Option Int)} {sp cp:Nat} {tk:Int} {br nx:List Nat} (h:cs.all gcB=true) (hl:cs.length≤1000) (h1:code.length≤1000∧0≤tk∧tk≤1000∧sp≤1000∧cp≤1000∧br.length≤100∧nx.length≤100) (h2:br.all (fun j=>decide (j < code.length))=true) (h3:nx.all (fun j=>decide (j < code.length))=true):rG ⟨code,cs,sp,cp,tk,br,nx⟩=some ⟨code,cs,sp,cp,tk,br,nx⟩:=by
 unfold rG;rw[if_pos];unfold RG.ok;simp only;rw[h,h2,h3];simp;omega
def szG (code:List V.KI) (sp:Nat) (tk:Int) (br nx:List Nat):Bool:=decide (code.length≤900) && (decide (0≤tk∧tk≤1000) && (decide (sp≤1000) && (decide (br.length≤100∧nx.length≤100) && (br.all (fun j=>decide (j < code.length)) && nx.all (fun j=>decide (j < code.length))))))
theorem qH {code:List V.KI} {sp:Nat} {tk:Int} {br nx:List Nat} (h:szG code sp tk br nx=true):code.length≤900∧(0≤tk∧tk≤1000)∧sp≤1000∧(br.length≤100∧nx.length≤100)∧br.all (fun j=>decide (j < code.length))=true∧nx.all (fun j=>decide (j < code.length))=true:=by
 simpa only [szG,Bool.and_eq_true,decide_eq_true_eq] using h
theorem rGe (code:List V.KI) (cs:List (Option Int)) (sp:Nat) (tk:Int) (br nx:List Nat) (h:cs.all gcB=true) (hl:cs.length≤1000) (hz:szG code sp tk br nx=true):rG ⟨code,cs,sp,0,tk,br,nx⟩=some ⟨code,cs,sp,0,tk,br,nx⟩:=by
 obtain⟨z1,z2,z3,z4,z5,z6⟩:=qH hz;exact rGx h hl ⟨by omega,z2.1,z2.2,z3,Nat.zero_le _,z4.1,z4.2⟩ z5 z6
theorem zb {nd:PN→RG→Option RG} {x:PN} {l:List PN} {m m1:RG} {r:Option RG} (h:nd x m=some m1) (h2:zD nd l m1=r):zD nd (x :: l) m=r:=by
 rw[zD,h];exact h2
variable {sl cl:List Int} {f:Nat} {m m0 m1 ma m2 m3:RG} {r:Option RG} {k:Int} {s:ByteArray} {x c t p q:PN}
theorem zC {o:Int} (h1:rN sl cl f p m=some m1) (h2:rN sl cl f q m1=some m2) (h3:rG (m2.add 5 o 0)=r):rN sl cl (f+1) (opM o p q) m=r:=by
 show rB (zD (rN sl cl f) [p,q] m) (fun m1=>rG (m1.add 5 o 0))=r;rw[zb h1 (zb h2 rfl)];exact h3
theorem zB {l:List PN} (hl:l.length≤1000000) (h:zD (rN sl cl f) l m=r):rN sl cl (f+1) (blkM l) m=r:=by
 show (if 1000000 < l.length then none else rK (rN sl cl f) sl cl (blkM l) m)=r
 rw[if_neg (by omega)];exact h
theorem zO (h1:rN sl cl f x m=some m1) (h2:sl[m1.sp]? = some k) (h3:rG (({ m1 with sp:=m1.sp+1 }:RG).add 3 k 0)=r):rN sl cl (f+1) ⟨1,0,s,0,[x]⟩ m=r:=by
 show rB (zD (rN sl cl f) [x] m) (fun m1=>rB sl[m1.sp]? fun k=>rG (({ m1 with sp:=m1.sp+1 }:RG).add 3 k 0))=r;rw[zb h1 rfl];show rB sl[m1.sp]? _=r;rw[h2];exact h3
theorem zP (h0:sl[m.sp]? = some k) (h1:rG { m with sp:=m.sp+1 } = some m0) (h2:rN sl cl f x m0=some m1) (h3:rG (m1.add 3 k 0)=r):rN sl cl (f+1) ⟨2,0,s,0,[x]⟩ m=r:=by
 show rB sl[m.sp]? (fun k=>rB (rG { m with sp:=m.sp+1 }) fun m0=>rB (zD (rN sl cl f) [x] m0) fun m1=>rG (m1.add 3 k 0))=r;rw[h0];show rB (rG { m with sp:=m.sp+1 }) _=r;rw[h1];show rB (zD (rN sl cl f) [x] m0) _=r;rw[zb h2 rfl];exact h3
theorem rN_if (h1:rN sl cl f c m=some m1) (h2:rG (m1.add 8 0 0)=some ma) (h3:rN sl cl f t ma=some m2) (h4:rG (m2.land [m1.code.length])=r):rN sl cl (f+1) ⟨3,0,zE,0,[c,t]⟩ m=r:=by
 show rB (rN sl cl f c m) (fun m1=>rB (rG (m1.add 8 0 0)) fun ma=>rB (rN sl cl f t ma) fun m2=>rG (m2.land [m1.code.length]))=r;rw[h1];show rB (rG (m1.add 8 0 0)) _=r;rw[h2];show rB (rN sl cl f t ma) _=r;rw[h3];exact h4
theorem zX (h0:rG { m with br:=[],nx:=[] } = some m0) (h1:rN sl cl f c m0=some m1) (h2:rG (m1.add 8 0 0)=some ma) (h3:rN sl cl f t ma=some m2) (h4:rG ((((m2.land m2.nx).tick).add 7 (m.code.length:Int) 0).land (m1.code.length :: m2.br))=some m3) (h5:rG { m3 with br:=m.br,nx:=m.nx } = r):rN sl cl (f+1) ⟨4,0,zE,0,[c,t]⟩ m=r:=by
 show rB (rG { m with br:=[],nx:=[] }) (fun m0=>rB (rN sl cl f c m0) fun m1=>rB (rG (m1.add 8 0 0)) fun ma=>rB (rN sl cl f t ma) fun m2=>rB (rG ((((m2.land m2.nx).tick).add 7 (m.code.length:Int) 0).land (m1.code.length :: m2.br))) fun m3=>rG { m3 with br:=m.br,nx:=m.nx })=r;rw[h0];show rB (rN sl cl f c m0) _=r;rw[h1];show rB (rG (m1.add 8 0 0)) _=r;rw[h2];show rB (rN sl cl f t ma) _=r;rw[h3];show rB (rG _) _=r;rw[h4];exact h5
theorem qC (h0:rG m=some m0) (h1:rN sl cl f x m0=some m1) (h2:rG (m1.add 10 0 0)=r):rN sl cl (f+1) ⟨7,0,zE,0,[x]⟩ m=r:=by
 show rB (rG (if [x] = [] then m.cst none else m)) (fun m0=>rB (zD (rN sl cl f) [x] m0) fun m1=>rG (m1.add 10 0 0))=r
 rw[if_neg (by simp),h0];show rB (zD (rN sl cl f) [x] m0) _=r;rw[zb h1 rfl];exact h2
theorem zp (s:ByteArray) (h0:sl[m.sp]? = some k) (h1:rG (({ m with sp:=m.sp+1 }:RG).add 2 k 0)=r):rN sl cl (f+1) ⟨19,0,s,0,[]⟩ m=r:=by
 show rB sl[m.sp]? (fun k=>rG (({ m with sp:=m.sp+1 }:RG).add 2 k 0))=r;rw[h0];exact h1
theorem rN_brk (h1:rG { (m.add 7 0 0) with br:=m.br++[m.code.length] } = r):rN sl cl (f+1) ⟨5,0,zE,0,[]⟩ m=r:=h1
theorem rN_cnt (h1:rG { (m.add 7 0 0) with nx:=m.nx++[m.code.length] } = r):rN sl cl (f+1) ⟨6,0,zE,0,[]⟩ m=r:=h1
theorem zg (sl cl:List Int) (f:Nat) (v:Int) (code:List V.KI) (cs:List (Option Int)) (sp:Nat) (tk:Int) (br nx:List Nat) (hv:gcB (some v)=true) (h:cs.all gcB=true) (hl:cs.length≤900) (hz:szG code sp tk br nx=true):∃ (i:Nat) (cs':List (Option Int)),rN sl cl (f+1) (nN v) ⟨code,cs,sp,0,tk,br,nx⟩=some ⟨code++[⟨1,(i:Int),0⟩],cs',sp,0,tk,br,nx⟩∧cs'[i]? = some (some v)∧(∀ (j:Nat) (x:Option Int),cs[j]? = some x→cs'[j]? = some x)∧cs'.all gcB=true∧cs'.length≤cs.length+1:=by
 obtain⟨h1,z2,z3,z4,h2,h3⟩:=qH hz;obtain⟨i,cs',e,g1,g2,g3,g4⟩:=qB (some v) hv code cs sp 0 tk br nx h;refine⟨i,cs',?_,g1,g2,g3,g4⟩;show rG ((⟨code,cs,sp,0,tk,br,nx⟩:RG).cst (some v))=_;rw[e];have up:∀ l:List Nat,l.all (fun j=>decide (j < code.length))=true→l.all (fun j=>decide (j < (code++[(⟨1,(i:Int),0⟩:V.KI)]).length))=true:=fun l hl=>by
  refine List.all_eq_true.2 fun j hj => ?_;have:=List.all_eq_true.1 hl j hj;simp only[decide_eq_true_eq,List.length_append,List.length_cons,List.length_nil] at this ⊢;omega
 exact rGx g3 (by omega) (by simp only[List.length_append,List.length_cons,List.length_nil];omega) (up br h2) (up nx h3)
def zU:List Int:=[0,1,0,0,0,0,1,1,1]
def rA0 (z y N o A q l:Nat):List V.KI:=[⟨1,z,0⟩,⟨3,0,0⟩,⟨1,y,0⟩,⟨3,1,0⟩,⟨2,0,0⟩,⟨1,N,0⟩,⟨5,8,0⟩,⟨8,0,0⟩,⟨2,0,0⟩,⟨1,o,0⟩,⟨5,1,0⟩,⟨3,0,0⟩,⟨2,0,0⟩,⟨1,A,0⟩,⟨5,6,0⟩,⟨8,0,0⟩,⟨7,0,0⟩,⟨2,1,0⟩,⟨1,q,0⟩,⟨5,1,0⟩,⟨3,1,0⟩,⟨12,1,0⟩,⟨7,4,0⟩,⟨2,1,0⟩,⟨10,0,0⟩,⟨1,l,0⟩,⟨10,0,0⟩]
def rB0 (z y N o A q l:Nat):List V.KI:=[⟨1,z,0⟩,⟨3,0,0⟩,⟨1,y,0⟩,⟨3,1,0⟩,⟨2,0,0⟩,⟨1,N,0⟩,⟨5,8,0⟩,⟨8,0,0⟩,⟨2,0,0⟩,⟨1,o,0⟩,⟨5,1,0⟩,⟨3,0,0⟩,⟨2,0,0⟩,⟨1,A,0⟩,⟨5,6,0⟩,⟨8,17,0⟩,⟨7,0,0⟩,⟨2,1,0⟩,⟨1,q,0⟩,⟨5,1,0⟩,⟨3,1,0⟩,⟨12,1,0⟩,⟨7,4,0⟩,⟨2,1,0⟩,⟨10,0,0⟩,⟨1,l,0⟩,⟨10,0,0⟩]
def zY (z y N o A q l:Nat):List V.KI:=[⟨1,z,0⟩,⟨3,0,0⟩,⟨1,y,0⟩,⟨3,1,0⟩,⟨2,0,0⟩,⟨1,N,0⟩,⟨5,8,0⟩,⟨8,23,0⟩,⟨2,0,0⟩,⟨1,o,0⟩,⟨5,1,0⟩,⟨3,0,0⟩,⟨2,0,0⟩,⟨1,A,0⟩,⟨5,6,0⟩,⟨8,17,0⟩,⟨7,23,0⟩,⟨2,1,0⟩,⟨1,q,0⟩,⟨5,1,0⟩,⟨3,1,0⟩,⟨12,1,0⟩,⟨7,4,0⟩,⟨2,1,0⟩,⟨10,0,0⟩,⟨1,l,0⟩,⟨10,0,0⟩]
theorem one_loops0 (n a:Nat) (hn:n≤1000) (ha:a≤1000):∃ (z y N o A q l:Nat) (cs:List (Option Int)),qw 60 ⟨nmM,[],bdU 0 n a⟩ ⟨2,zU,[]⟩ 0=some ⟨zY z y N o A q l,cs,9,0,1,[],[]⟩∧cs[z]? = some (some 0)∧cs[y]? = some (some 0)∧cs[N]? = some (some (n:Int))∧cs[o]? = some (some 1)∧cs[A]? = some (some (a:Int))∧cs[q]? = some (some 1)∧cs[l]? = some none∧cs.all gcB=true∧cs.length≤10:=by
 have hN:=qj (n:=n) (by omega);have hA:=qj (n:=a) (by omega);obtain⟨z,C1,e1,g_C1,p_C1,A_C1,l_C1⟩:=zg zU [] 57 0 ((rA0 0 0 0 0 0 0 0).take 0) [] 0 0 [] [] rfl rfl (by simp) rfl;have l_C1:C1.length≤1:=l_C1;obtain⟨y,C2,e2,g_C2,p_C2,A_C2,l_C2⟩:=zg zU [] 57 0 ((rA0 z 0 0 0 0 0 0).take 2) C1 1 0 [] [] rfl A_C1 (by omega) rfl;obtain⟨N,C3,e3,g_C3,p_C3,A_C3,l_C3⟩:=zg zU [] 56 n ((rA0 z y 0 0 0 0 0).take 5) C2 3 0 [] [] hN A_C2 (by omega) rfl;obtain⟨o,C4,e4,g_C4,p_C4,A_C4,l_C4⟩:=zg zU [] 54 1 ((rA0 z y N 0 0 0 0).take 9) C3 5 0 [] [] rfl A_C3 (by omega) rfl;obtain⟨A,C5,e5,g_C5,p_C5,A_C5,l_C5⟩:=zg zU [] 54 a ((rA0 z y N o 0 0 0).take 13) C4 6 0 [] [] hA A_C4 (by omega) rfl;obtain⟨q,C6,e6,g_C6,p_C6,A_C6,l_C6⟩:=zg zU [] 54 1 ((rB0 z y N o A 0 0).take 18) C5 8 0 [16] [] rfl A_C5 (by omega) rfl
 have e0:rN zU [] 60 (bdU 0 n a) ⟨[],[],0,0,0,[],[]⟩=some ⟨((zY z y N o A q 0).take 25),C6,9,0,1,[],[]⟩:=zB (by simp) (zb (zO e1 rfl (rGe ((rA0 z 0 0 0 0 0 0).take 2) C1 1 0 [] [] A_C1 (by omega) rfl)) (zb (zO e2 rfl (rGe ((rA0 z y 0 0 0 0 0).take 4) C2 2 0 [] [] A_C2 (by omega) rfl)) (zb (zX (rGe ((rA0 z y 0 0 0 0 0).take 4) C2 2 0 [] [] A_C2 (by omega) rfl) (zC (zp _ rfl (rGe ((rA0 z y 0 0 0 0 0).take 5) C2 3 0 [] [] A_C2 (by omega) rfl)) e3 (rGe ((rA0 z y N 0 0 0 0).take 7) C3 3 0 [] [] A_C3 (by omega) rfl)) (rGe ((rA0 z y N 0 0 0 0).take 8) C3 3 0 [] [] A_C3 (by omega) rfl) (zB (by simp) (zb (zP rfl (rGe ((rA0 z y N 0 0 0 0).take 8) C3 4 0 [] [] A_C3 (by omega) rfl) (zC (zp _ rfl (rGe ((rA0 z y N 0 0 0 0).take 9) C3 5 0 [] [] A_C3 (by omega) rfl)) e4 (rGe ((rA0 z y N o 0 0 0).take 11) C4 5 0 [] [] A_C4 (by omega) rfl)) (rGe ((rA0 z y N o 0 0 0).take 12) C4 5 0 [] [] A_C4 (by omega) rfl)) (zb (rN_if (zC (zp _ rfl (rGe ((rA0 z y N o 0 0 0).take 13) C4 6 0 [] [] A_C4 (by omega) rfl)) e5 (rGe ((rA0 z y N o A 0 0).take 15) C5 6 0 [] [] A_C5 (by omega) rfl)) (rGe ((rA0 z y N o A 0 0).take 16) C5 6 0 [] [] A_C5 (by omega) rfl) (zB (by simp[howN]) (zb (rN_brk (rGe ((rA0 z y N o A 0 0).take 17) C5 6 0 [16] [] A_C5 (by omega) rfl)) rfl)) (rGe ((rB0 z y N o A 0 0).take 17) C5 6 0 [16] [] A_C5 (by omega) rfl)) (zb (zP rfl (rGe ((rB0 z y N o A 0 0).take 17) C5 7 0 [16] [] A_C5 (by omega) rfl) (zC (zp _ rfl (rGe ((rB0 z y N o A 0 0).take 18) C5 8 0 [16] [] A_C5 (by omega) rfl)) e6 (rGe ((rB0 z y N o A q 0).take 20) C6 8 0 [16] [] A_C6 (by omega) rfl)) (rGe ((rB0 z y N o A q 0).take 21) C6 8 0 [16] [] A_C6 (by omega) rfl)) rfl)))) (rGe ((zY z y N o A q 0).take 23) C6 8 1 [16] [] A_C6 (by omega) rfl) (rGe ((zY z y N o A q 0).take 23) C6 8 1 [] [] A_C6 (by omega) rfl)) (zb (qC (rGe ((zY z y N o A q 0).take 23) C6 8 1 [] [] A_C6 (by omega) rfl) (zp _ rfl (rGe ((zY z y N o A q 0).take 24) C6 9 1 [] [] A_C6 (by omega) rfl)) (rGe ((zY z y N o A q 0).take 25) C6 9 1 [] [] A_C6 (by omega) rfl)) rfl))))
 obtain⟨l,CL,e9,g_CL,p_CL,A_CL,l_CL⟩:=qB none rfl ((zY z y N o A q 0).take 25) C6 9 0 1 [] [] A_C6;refine⟨z,y,N,o,A,q,l,CL,?_,p_CL _ _ (p_C6 _ _ (p_C5 _ _ (p_C4 _ _ (p_C3 _ _ (p_C2 _ _ (g_C1)))))),p_CL _ _ (p_C6 _ _ (p_C5 _ _ (p_C4 _ _ (p_C3 _ _ (g_C2))))),p_CL _ _ (p_C6 _ _ (p_C5 _ _ (p_C4 _ _ (g_C3)))),p_CL _ _ (p_C6 _ _ (p_C5 _ _ (g_C4))),p_CL _ _ (p_C6 _ _ (g_C5)),p_CL _ _ (g_C6),g_CL,A_CL,by omega⟩;unfold qw;simp only;rw[e0];show rG ((RG.cst _ none).add 10 0 0)=_;rw[e9];exact(rGe ((zY z y N o A q l).take 27) CL 9 1 [] [] A_CL (by omega) rfl)
def slU1:List Int:=[0,1,0,0,0,0,1,1,1]
def rA1 (z y N o A q l:Nat):List V.KI:=[⟨1,z,0⟩,⟨3,0,0⟩,⟨1,y,0⟩,⟨3,1,0⟩,⟨2,0,0⟩,⟨1,N,0⟩,⟨5,8,0⟩,⟨8,0,0⟩,⟨2,0,0⟩,⟨1,o,0⟩,⟨5,1,0⟩,⟨3,0,0⟩,⟨2,0,0⟩,⟨1,A,0⟩,⟨5,6,0⟩,⟨8,0,0⟩,⟨7,0,0⟩,⟨2,1,0⟩,⟨1,q,0⟩,⟨5,1,0⟩,⟨3,1,0⟩,⟨12,1,0⟩,⟨7,4,0⟩,⟨2,1,0⟩,⟨10,0,0⟩,⟨1,l,0⟩,⟨10,0,0⟩]
def rB1 (z y N o A q l:Nat):List V.KI:=[⟨1,z,0⟩,⟨3,0,0⟩,⟨1,y,0⟩,⟨3,1,0⟩,⟨2,0,0⟩,⟨1,N,0⟩,⟨5,8,0⟩,⟨8,0,0⟩,⟨2,0,0⟩,⟨1,o,0⟩,⟨5,1,0⟩,⟨3,0,0⟩,⟨2,0,0⟩,⟨1,A,0⟩,⟨5,6,0⟩,⟨8,17,0⟩,⟨7,0,0⟩,⟨2,1,0⟩,⟨1,q,0⟩,⟨5,1,0⟩,⟨3,1,0⟩,⟨12,1,0⟩,⟨7,4,0⟩,⟨2,1,0⟩,⟨10,0,0⟩,⟨1,l,0⟩,⟨10,0,0⟩]
def zZ (z y N o A q l:Nat):List V.KI:=[⟨1,z,0⟩,⟨3,0,0⟩,⟨1,y,0⟩,⟨3,1,0⟩,⟨2,0,0⟩,⟨1,N,0⟩,⟨5,8,0⟩,⟨8,23,0⟩,⟨2,0,0⟩,⟨1,o,0⟩,⟨5,1,0⟩,⟨3,0,0⟩,⟨2,0,0⟩,⟨1,A,0⟩,⟨5,6,0⟩,⟨8,17,0⟩,⟨7,21,0⟩,⟨2,1,0⟩,⟨1,q,0⟩,⟨5,1,0⟩,⟨3,1,0⟩,⟨12,1,0⟩,⟨7,4,0⟩,⟨2,1,0⟩,⟨10,0,0⟩,⟨1,l,0⟩,⟨10,0,0⟩]
theorem one_loops1 (n a:Nat) (hn:n≤1000) (ha:a≤1000):∃ (z y N o A q l:Nat) (cs:List (Option Int)),qw 60 ⟨nmM,[],bdU 1 n a⟩ ⟨2,slU1,[]⟩ 0=some ⟨zZ z y N o A q l,cs,9,0,1,[],[]⟩∧cs[z]? = some (some 0)∧cs[y]? = some (some 0)∧cs[N]? = some (some (n:Int))∧cs[o]? = some (some 1)∧cs[A]? = some (some (a:Int))∧cs[q]? = some (some 1)∧cs[l]? = some none∧cs.all gcB=true∧cs.length≤10:=by
 have hN:=qj (n:=n) (by omega);have hA:=qj (n:=a) (by omega);obtain⟨z,C1,e1,g_C1,p_C1,A_C1,l_C1⟩:=zg slU1 [] 57 0 ((rA1 0 0 0 0 0 0 0).take 0) [] 0 0 [] [] rfl rfl (by simp) rfl;have l_C1:C1.length≤1:=l_C1;obtain⟨y,C2,e2,g_C2,p_C2,A_C2,l_C2⟩:=zg slU1 [] 57 0 ((rA1 z 0 0 0 0 0 0).take 2) C1 1 0 [] [] rfl A_C1 (by omega) rfl;obtain⟨N,C3,e3,g_C3,p_C3,A_C3,l_C3⟩:=zg slU1 [] 56 n ((rA1 z y 0 0 0 0 0).take 5) C2 3 0 [] [] hN A_C2 (by omega) rfl;obtain⟨o,C4,e4,g_C4,p_C4,A_C4,l_C4⟩:=zg slU1 [] 54 1 ((rA1 z y N 0 0 0 0).take 9) C3 5 0 [] [] rfl A_C3 (by omega) rfl;obtain⟨A,C5,e5,g_C5,p_C5,A_C5,l_C5⟩:=zg slU1 [] 54 a ((rA1 z y N o 0 0 0).take 13) C4 6 0 [] [] hA A_C4 (by omega) rfl;obtain⟨q,C6,e6,g_C6,p_C6,A_C6,l_C6⟩:=zg slU1 [] 54 1 ((rB1 z y N o A 0 0).take 18) C5 8 0 [] [16] rfl A_C5 (by omega) rfl
 have e0:rN slU1 [] 60 (bdU 1 n a) ⟨[],[],0,0,0,[],[]⟩=some ⟨((zZ z y N o A q 0).take 25),C6,9,0,1,[],[]⟩:=zB (by simp) (zb (zO e1 rfl (rGe ((rA1 z 0 0 0 0 0 0).take 2) C1 1 0 [] [] A_C1 (by omega) rfl)) (zb (zO e2 rfl (rGe ((rA1 z y 0 0 0 0 0).take 4) C2 2 0 [] [] A_C2 (by omega) rfl)) (zb (zX (rGe ((rA1 z y 0 0 0 0 0).take 4) C2 2 0 [] [] A_C2 (by omega) rfl) (zC (zp _ rfl (rGe ((rA1 z y 0 0 0 0 0).take 5) C2 3 0 [] [] A_C2 (by omega) rfl)) e3 (rGe ((rA1 z y N 0 0 0 0).take 7) C3 3 0 [] [] A_C3 (by omega) rfl)) (rGe ((rA1 z y N 0 0 0 0).take 8) C3 3 0 [] [] A_C3 (by omega) rfl) (zB (by simp) (zb (zP rfl (rGe ((rA1 z y N 0 0 0 0).take 8) C3 4 0 [] [] A_C3 (by omega) rfl) (zC (zp _ rfl (rGe ((rA1 z y N 0 0 0 0).take 9) C3 5 0 [] [] A_C3 (by omega) rfl)) e4 (rGe ((rA1 z y N o 0 0 0).take 11) C4 5 0 [] [] A_C4 (by omega) rfl)) (rGe ((rA1 z y N o 0 0 0).take 12) C4 5 0 [] [] A_C4 (by omega) rfl)) (zb (rN_if (zC (zp _ rfl (rGe ((rA1 z y N o 0 0 0).take 13) C4 6 0 [] [] A_C4 (by omega) rfl)) e5 (rGe ((rA1 z y N o A 0 0).take 15) C5 6 0 [] [] A_C5 (by omega) rfl)) (rGe ((rA1 z y N o A 0 0).take 16) C5 6 0 [] [] A_C5 (by omega) rfl) (zB (by simp[howN]) (zb (rN_cnt (rGe ((rA1 z y N o A 0 0).take 17) C5 6 0 [] [16] A_C5 (by omega) rfl)) rfl)) (rGe ((rB1 z y N o A 0 0).take 17) C5 6 0 [] [16] A_C5 (by omega) rfl)) (zb (zP rfl (rGe ((rB1 z y N o A 0 0).take 17) C5 7 0 [] [16] A_C5 (by omega) rfl) (zC (zp _ rfl (rGe ((rB1 z y N o A 0 0).take 18) C5 8 0 [] [16] A_C5 (by omega) rfl)) e6 (rGe ((rB1 z y N o A q 0).take 20) C6 8 0 [] [16] A_C6 (by omega) rfl)) (rGe ((rB1 z y N o A q 0).take 21) C6 8 0 [] [16] A_C6 (by omega) rfl)) rfl)))) (rGe ((zZ z y N o A q 0).take 23) C6 8 1 [] [16] A_C6 (by omega) rfl) (rGe ((zZ z y N o A q 0).take 23) C6 8 1 [] [] A_C6 (by omega) rfl)) (zb (qC (rGe ((zZ z y N o A q 0).take 23) C6 8 1 [] [] A_C6 (by omega) rfl) (zp _ rfl (rGe ((zZ z y N o A q 0).take 24) C6 9 1 [] [] A_C6 (by omega) rfl)) (rGe ((zZ z y N o A q 0).take 25) C6 9 1 [] [] A_C6 (by omega) rfl)) rfl))))
 obtain⟨l,CL,e9,g_CL,p_CL,A_CL,l_CL⟩:=qB none rfl ((zZ z y N o A q 0).take 25) C6 9 0 1 [] [] A_C6;refine⟨z,y,N,o,A,q,l,CL,?_,p_CL _ _ (p_C6 _ _ (p_C5 _ _ (p_C4 _ _ (p_C3 _ _ (p_C2 _ _ (g_C1)))))),p_CL _ _ (p_C6 _ _ (p_C5 _ _ (p_C4 _ _ (p_C3 _ _ (g_C2))))),p_CL _ _ (p_C6 _ _ (p_C5 _ _ (p_C4 _ _ (g_C3)))),p_CL _ _ (p_C6 _ _ (p_C5 _ _ (g_C4))),p_CL _ _ (p_C6 _ _ (g_C5)),p_CL _ _ (g_C6),g_CL,A_CL,by omega⟩;unfold qw;simp only;rw[e0];show rG ((RG.cst _ none).add 10 0 0)=_;rw[e9];exact(rGe ((zZ z y N o A q l).take 27) CL 9 1 [] [] A_CL (by omega) rfl)
def qh:List Int:=[0,1,0,0,0,0,1,1,1,1]
def rA2 (z y N o A q l:Nat):List V.KI:=[⟨1,z,0⟩,⟨3,0,0⟩,⟨1,y,0⟩,⟨3,1,0⟩,⟨2,0,0⟩,⟨1,N,0⟩,⟨5,8,0⟩,⟨8,0,0⟩,⟨2,0,0⟩,⟨1,o,0⟩,⟨5,1,0⟩,⟨3,0,0⟩,⟨2,0,0⟩,⟨1,A,0⟩,⟨5,6,0⟩,⟨8,0,0⟩,⟨2,1,0⟩,⟨10,0,0⟩,⟨2,1,0⟩,⟨1,q,0⟩,⟨5,1,0⟩,⟨3,1,0⟩,⟨12,1,0⟩,⟨7,4,0⟩,⟨2,1,0⟩,⟨10,0,0⟩,⟨1,l,0⟩,⟨10,0,0⟩]
def rB2 (z y N o A q l:Nat):List V.KI:=[⟨1,z,0⟩,⟨3,0,0⟩,⟨1,y,0⟩,⟨3,1,0⟩,⟨2,0,0⟩,⟨1,N,0⟩,⟨5,8,0⟩,⟨8,0,0⟩,⟨2,0,0⟩,⟨1,o,0⟩,⟨5,1,0⟩,⟨3,0,0⟩,⟨2,0,0⟩,⟨1,A,0⟩,⟨5,6,0⟩,⟨8,18,0⟩,⟨2,1,0⟩,⟨10,0,0⟩,⟨2,1,0⟩,⟨1,q,0⟩,⟨5,1,0⟩,⟨3,1,0⟩,⟨12,1,0⟩,⟨7,4,0⟩,⟨2,1,0⟩,⟨10,0,0⟩,⟨1,l,0⟩,⟨10,0,0⟩]
def qd (z y N o A q l:Nat):List V.KI:=[⟨1,z,0⟩,⟨3,0,0⟩,⟨1,y,0⟩,⟨3,1,0⟩,⟨2,0,0⟩,⟨1,N,0⟩,⟨5,8,0⟩,⟨8,24,0⟩,⟨2,0,0⟩,⟨1,o,0⟩,⟨5,1,0⟩,⟨3,0,0⟩,⟨2,0,0⟩,⟨1,A,0⟩,⟨5,6,0⟩,⟨8,18,0⟩,⟨2,1,0⟩,⟨10,0,0⟩,⟨2,1,0⟩,⟨1,q,0⟩,⟨5,1,0⟩,⟨3,1,0⟩,⟨12,1,0⟩,⟨7,4,0⟩,⟨2,1,0⟩,⟨10,0,0⟩,⟨1,l,0⟩,⟨10,0,0⟩]
theorem one_loops2 (n a:Nat) (hn:n≤1000) (ha:a≤1000):∃ (z y N o A q l:Nat) (cs:List (Option Int)),qw 60 ⟨nmM,[],bdU 2 n a⟩ ⟨2,qh,[]⟩ 0=some ⟨qd z y N o A q l,cs,10,0,1,[],[]⟩∧cs[z]? = some (some 0)∧cs[y]? = some (some 0)∧cs[N]? = some (some (n:Int))∧cs[o]? = some (some 1)∧cs[A]? = some (some (a:Int))∧cs[q]? = some (some 1)∧cs[l]? = some none∧cs.all gcB=true∧cs.length≤10:=by
 have hN:=qj (n:=n) (by omega);have hA:=qj (n:=a) (by omega);obtain⟨z,C1,e1,g_C1,p_C1,A_C1,l_C1⟩:=zg qh [] 57 0 ((rA2 0 0 0 0 0 0 0).take 0) [] 0 0 [] [] rfl rfl (by simp) rfl;have l_C1:C1.length≤1:=l_C1;obtain⟨y,C2,e2,g_C2,p_C2,A_C2,l_C2⟩:=zg qh [] 57 0 ((rA2 z 0 0 0 0 0 0).take 2) C1 1 0 [] [] rfl A_C1 (by omega) rfl;obtain⟨N,C3,e3,g_C3,p_C3,A_C3,l_C3⟩:=zg qh [] 56 n ((rA2 z y 0 0 0 0 0).take 5) C2 3 0 [] [] hN A_C2 (by omega) rfl;obtain⟨o,C4,e4,g_C4,p_C4,A_C4,l_C4⟩:=zg qh [] 54 1 ((rA2 z y N 0 0 0 0).take 9) C3 5 0 [] [] rfl A_C3 (by omega) rfl;obtain⟨A,C5,e5,g_C5,p_C5,A_C5,l_C5⟩:=zg qh [] 54 a ((rA2 z y N o 0 0 0).take 13) C4 6 0 [] [] hA A_C4 (by omega) rfl;obtain⟨q,C6,e6,g_C6,p_C6,A_C6,l_C6⟩:=zg qh [] 54 1 ((rB2 z y N o A 0 0).take 19) C5 9 0 [] [] rfl A_C5 (by omega) rfl
 have e0:rN qh [] 60 (bdU 2 n a) ⟨[],[],0,0,0,[],[]⟩=some ⟨((qd z y N o A q 0).take 26),C6,10,0,1,[],[]⟩:=zB (by simp) (zb (zO e1 rfl (rGe ((rA2 z 0 0 0 0 0 0).take 2) C1 1 0 [] [] A_C1 (by omega) rfl)) (zb (zO e2 rfl (rGe ((rA2 z y 0 0 0 0 0).take 4) C2 2 0 [] [] A_C2 (by omega) rfl)) (zb (zX (rGe ((rA2 z y 0 0 0 0 0).take 4) C2 2 0 [] [] A_C2 (by omega) rfl) (zC (zp _ rfl (rGe ((rA2 z y 0 0 0 0 0).take 5) C2 3 0 [] [] A_C2 (by omega) rfl)) e3 (rGe ((rA2 z y N 0 0 0 0).take 7) C3 3 0 [] [] A_C3 (by omega) rfl)) (rGe ((rA2 z y N 0 0 0 0).take 8) C3 3 0 [] [] A_C3 (by omega) rfl) (zB (by simp) (zb (zP rfl (rGe ((rA2 z y N 0 0 0 0).take 8) C3 4 0 [] [] A_C3 (by omega) rfl) (zC (zp _ rfl (rGe ((rA2 z y N 0 0 0 0).take 9) C3 5 0 [] [] A_C3 (by omega) rfl)) e4 (rGe ((rA2 z y N o 0 0 0).take 11) C4 5 0 [] [] A_C4 (by omega) rfl)) (rGe ((rA2 z y N o 0 0 0).take 12) C4 5 0 [] [] A_C4 (by omega) rfl)) (zb (rN_if (zC (zp _ rfl (rGe ((rA2 z y N o 0 0 0).take 13) C4 6 0 [] [] A_C4 (by omega) rfl)) e5 (rGe ((rA2 z y N o A 0 0).take 15) C5 6 0 [] [] A_C5 (by omega) rfl)) (rGe ((rA2 z y N o A 0 0).take 16) C5 6 0 [] [] A_C5 (by omega) rfl) (zB (by simp[howN]) (zb (qC (rGe ((rA2 z y N o A 0 0).take 16) C5 6 0 [] [] A_C5 (by omega) rfl) (zp _ rfl (rGe ((rA2 z y N o A 0 0).take 17) C5 7 0 [] [] A_C5 (by omega) rfl)) (rGe ((rA2 z y N o A 0 0).take 18) C5 7 0 [] [] A_C5 (by omega) rfl)) rfl)) (rGe ((rB2 z y N o A 0 0).take 18) C5 7 0 [] [] A_C5 (by omega) rfl)) (zb (zP rfl (rGe ((rB2 z y N o A 0 0).take 18) C5 8 0 [] [] A_C5 (by omega) rfl) (zC (zp _ rfl (rGe ((rB2 z y N o A 0 0).take 19) C5 9 0 [] [] A_C5 (by omega) rfl)) e6 (rGe ((rB2 z y N o A q 0).take 21) C6 9 0 [] [] A_C6 (by omega) rfl)) (rGe ((rB2 z y N o A q 0).take 22) C6 9 0 [] [] A_C6 (by omega) rfl)) rfl)))) (rGe ((qd z y N o A q 0).take 24) C6 9 1 [] [] A_C6 (by omega) rfl) (rGe ((qd z y N o A q 0).take 24) C6 9 1 [] [] A_C6 (by omega) rfl)) (zb (qC (rGe ((qd z y N o A q 0).take 24) C6 9 1 [] [] A_C6 (by omega) rfl) (zp _ rfl (rGe ((qd z y N o A q 0).take 25) C6 10 1 [] [] A_C6 (by omega) rfl)) (rGe ((qd z y N o A q 0).take 26) C6 10 1 [] [] A_C6 (by omega) rfl)) rfl))))
 obtain⟨l,CL,e9,g_CL,p_CL,A_CL,l_CL⟩:=qB none rfl ((qd z y N o A q 0).take 26) C6 10 0 1 [] [] A_C6;refine⟨z,y,N,o,A,q,l,CL,?_,p_CL _ _ (p_C6 _ _ (p_C5 _ _ (p_C4 _ _ (p_C3 _ _ (p_C2 _ _ (g_C1)))))),p_CL _ _ (p_C6 _ _ (p_C5 _ _ (p_C4 _ _ (p_C3 _ _ (g_C2))))),p_CL _ _ (p_C6 _ _ (p_C5 _ _ (p_C4 _ _ (g_C3)))),p_CL _ _ (p_C6 _ _ (p_C5 _ _ (g_C4))),p_CL _ _ (p_C6 _ _ (g_C5)),p_CL _ _ (g_C6),g_CL,A_CL,by omega⟩;unfold qw;simp only;rw[e0];show rG ((RG.cst _ none).add 10 0 0)=_;rw[e9];exact(rGe ((qd z y N o A q l).take 28) CL 10 1 [] [] A_CL (by omega) rfl)
def slU3:List Int:=[0,1,0,0,0,0,1,1,1]
def rA3 (z y N o A q l:Nat):List V.KI:=[⟨1,z,0⟩,⟨3,0,0⟩,⟨1,y,0⟩,⟨3,1,0⟩,⟨2,0,0⟩,⟨1,N,0⟩,⟨5,8,0⟩,⟨8,0,0⟩,⟨2,0,0⟩,⟨1,o,0⟩,⟨5,1,0⟩,⟨3,0,0⟩,⟨2,0,0⟩,⟨1,A,0⟩,⟨5,6,0⟩,⟨8,0,0⟩,⟨2,1,0⟩,⟨1,q,0⟩,⟨5,1,0⟩,⟨3,1,0⟩,⟨12,1,0⟩,⟨7,4,0⟩,⟨2,1,0⟩,⟨10,0,0⟩,⟨1,l,0⟩,⟨10,0,0⟩]
def rB3 (z y N o A q l:Nat):List V.KI:=[⟨1,z,0⟩,⟨3,0,0⟩,⟨1,y,0⟩,⟨3,1,0⟩,⟨2,0,0⟩,⟨1,N,0⟩,⟨5,8,0⟩,⟨8,0,0⟩,⟨2,0,0⟩,⟨1,o,0⟩,⟨5,1,0⟩,⟨3,0,0⟩,⟨2,0,0⟩,⟨1,A,0⟩,⟨5,6,0⟩,⟨8,16,0⟩,⟨2,1,0⟩,⟨1,q,0⟩,⟨5,1,0⟩,⟨3,1,0⟩,⟨12,1,0⟩,⟨7,4,0⟩,⟨2,1,0⟩,⟨10,0,0⟩,⟨1,l,0⟩,⟨10,0,0⟩]
def qe (z y N o A q l:Nat):List V.KI:=[⟨1,z,0⟩,⟨3,0,0⟩,⟨1,y,0⟩,⟨3,1,0⟩,⟨2,0,0⟩,⟨1,N,0⟩,⟨5,8,0⟩,⟨8,22,0⟩,⟨2,0,0⟩,⟨1,o,0⟩,⟨5,1,0⟩,⟨3,0,0⟩,⟨2,0,0⟩,⟨1,A,0⟩,⟨5,6,0⟩,⟨8,16,0⟩,⟨2,1,0⟩,⟨1,q,0⟩,⟨5,1,0⟩,⟨3,1,0⟩,⟨12,1,0⟩,⟨7,4,0⟩,⟨2,1,0⟩,⟨10,0,0⟩,⟨1,l,0⟩,⟨10,0,0⟩]
theorem one_loops3 (n a:Nat) (hn:n≤1000) (ha:a≤1000):∃ (z y N o A q l:Nat) (cs:List (Option Int)),qw 60 ⟨nmM,[],bdU 3 n a⟩ ⟨2,slU3,[]⟩ 0=some ⟨qe z y N o A q l,cs,9,0,1,[],[]⟩∧cs[z]? = some (some 0)∧cs[y]? = some (some 0)∧cs[N]? = some (some (n:Int))∧cs[o]? = some (some 1)∧cs[A]? = some (some (a:Int))∧cs[q]? = some (some 1)∧cs[l]? = some none∧cs.all gcB=true∧cs.length≤10:=by
 have hN:=qj (n:=n) (by omega);have hA:=qj (n:=a) (by omega);obtain⟨z,C1,e1,g_C1,p_C1,A_C1,l_C1⟩:=zg slU3 [] 57 0 ((rA3 0 0 0 0 0 0 0).take 0) [] 0 0 [] [] rfl rfl (by simp) rfl;have l_C1:C1.length≤1:=l_C1;obtain⟨y,C2,e2,g_C2,p_C2,A_C2,l_C2⟩:=zg slU3 [] 57 0 ((rA3 z 0 0 0 0 0 0).take 2) C1 1 0 [] [] rfl A_C1 (by omega) rfl;obtain⟨N,C3,e3,g_C3,p_C3,A_C3,l_C3⟩:=zg slU3 [] 56 n ((rA3 z y 0 0 0 0 0).take 5) C2 3 0 [] [] hN A_C2 (by omega) rfl;obtain⟨o,C4,e4,g_C4,p_C4,A_C4,l_C4⟩:=zg slU3 [] 54 1 ((rA3 z y N 0 0 0 0).take 9) C3 5 0 [] [] rfl A_C3 (by omega) rfl;obtain⟨A,C5,e5,g_C5,p_C5,A_C5,l_C5⟩:=zg slU3 [] 54 a ((rA3 z y N o 0 0 0).take 13) C4 6 0 [] [] hA A_C4 (by omega) rfl;obtain⟨q,C6,e6,g_C6,p_C6,A_C6,l_C6⟩:=zg slU3 [] 54 1 ((rB3 z y N o A 0 0).take 17) C5 8 0 [] [] rfl A_C5 (by omega) rfl
 have e0:rN slU3 [] 60 (bdU 3 n a) ⟨[],[],0,0,0,[],[]⟩=some ⟨((qe z y N o A q 0).take 24),C6,9,0,1,[],[]⟩:=zB (by simp) (zb (zO e1 rfl (rGe ((rA3 z 0 0 0 0 0 0).take 2) C1 1 0 [] [] A_C1 (by omega) rfl)) (zb (zO e2 rfl (rGe ((rA3 z y 0 0 0 0 0).take 4) C2 2 0 [] [] A_C2 (by omega) rfl)) (zb (zX (rGe ((rA3 z y 0 0 0 0 0).take 4) C2 2 0 [] [] A_C2 (by omega) rfl) (zC (zp _ rfl (rGe ((rA3 z y 0 0 0 0 0).take 5) C2 3 0 [] [] A_C2 (by omega) rfl)) e3 (rGe ((rA3 z y N 0 0 0 0).take 7) C3 3 0 [] [] A_C3 (by omega) rfl)) (rGe ((rA3 z y N 0 0 0 0).take 8) C3 3 0 [] [] A_C3 (by omega) rfl) (zB (by simp) (zb (zP rfl (rGe ((rA3 z y N 0 0 0 0).take 8) C3 4 0 [] [] A_C3 (by omega) rfl) (zC (zp _ rfl (rGe ((rA3 z y N 0 0 0 0).take 9) C3 5 0 [] [] A_C3 (by omega) rfl)) e4 (rGe ((rA3 z y N o 0 0 0).take 11) C4 5 0 [] [] A_C4 (by omega) rfl)) (rGe ((rA3 z y N o 0 0 0).take 12) C4 5 0 [] [] A_C4 (by omega) rfl)) (zb (rN_if (zC (zp _ rfl (rGe ((rA3 z y N o 0 0 0).take 13) C4 6 0 [] [] A_C4 (by omega) rfl)) e5 (rGe ((rA3 z y N o A 0 0).take 15) C5 6 0 [] [] A_C5 (by omega) rfl)) (rGe ((rA3 z y N o A 0 0).take 16) C5 6 0 [] [] A_C5 (by omega) rfl) (zB (by simp[howN]) rfl) (rGe ((rB3 z y N o A 0 0).take 16) C5 6 0 [] [] A_C5 (by omega) rfl)) (zb (zP rfl (rGe ((rB3 z y N o A 0 0).take 16) C5 7 0 [] [] A_C5 (by omega) rfl) (zC (zp _ rfl (rGe ((rB3 z y N o A 0 0).take 17) C5 8 0 [] [] A_C5 (by omega) rfl)) e6 (rGe ((rB3 z y N o A q 0).take 19) C6 8 0 [] [] A_C6 (by omega) rfl)) (rGe ((rB3 z y N o A q 0).take 20) C6 8 0 [] [] A_C6 (by omega) rfl)) rfl)))) (rGe ((qe z y N o A q 0).take 22) C6 8 1 [] [] A_C6 (by omega) rfl) (rGe ((qe z y N o A q 0).take 22) C6 8 1 [] [] A_C6 (by omega) rfl)) (zb (qC (rGe ((qe z y N o A q 0).take 22) C6 8 1 [] [] A_C6 (by omega) rfl) (zp _ rfl (rGe ((qe z y N o A q 0).take 23) C6 9 1 [] [] A_C6 (by omega) rfl)) (rGe ((qe z y N o A q 0).take 24) C6 9 1 [] [] A_C6 (by omega) rfl)) rfl))))
 obtain⟨l,CL,e9,g_CL,p_CL,A_CL,l_CL⟩:=qB none rfl ((qe z y N o A q 0).take 24) C6 9 0 1 [] [] A_C6;refine⟨z,y,N,o,A,q,l,CL,?_,p_CL _ _ (p_C6 _ _ (p_C5 _ _ (p_C4 _ _ (p_C3 _ _ (p_C2 _ _ (g_C1)))))),p_CL _ _ (p_C6 _ _ (p_C5 _ _ (p_C4 _ _ (p_C3 _ _ (g_C2))))),p_CL _ _ (p_C6 _ _ (p_C5 _ _ (p_C4 _ _ (g_C3)))),p_CL _ _ (p_C6 _ _ (p_C5 _ _ (g_C4))),p_CL _ _ (p_C6 _ _ (g_C5)),p_CL _ _ (g_C6),g_CL,A_CL,by omega⟩;unfold qw;simp only;rw[e0];show rG ((RG.cst _ none).add 10 0 0)=_;rw[e9];exact(rGe ((qe z y N o A q l).take 26) CL 9 1 [] [] A_CL (by omega) rfl)
end
namespace V
def Cn (code:List KI) (cs:List PV) (pc:Nat) (v:PV):Prop:=∃ i:Nat,code[pc]? = some ⟨1,(i:Int),0⟩∧cs[i]? = some v
structure LpC (code:List KI) (cs:List PV) (X:Nat) (n a:Int):Prop where
 k0:Cn code cs 0 (it 0)
 k1:code[1]? = some ⟨3,0,0⟩
 k2:Cn code cs 2 (it 0)
 k3:code[3]? = some ⟨3,1,0⟩
 k4:code[4]? = some ⟨2,0,0⟩
 k5:Cn code cs 5 (it n)
 k6:code[6]? = some ⟨5,8,0⟩
 k7:code[7]? = some ⟨8,((X+6:Nat):Int),0⟩
 k8:code[8]? = some ⟨2,0,0⟩
 k9:Cn code cs 9 (it 1)
 k10:code[10]? = some ⟨5,1,0⟩
 k11:code[11]? = some ⟨3,0,0⟩
 k12:code[12]? = some ⟨2,0,0⟩
 k13:Cn code cs 13 (it a)
 k14:code[14]? = some ⟨5,6,0⟩
 k15:code[15]? = some ⟨8,(X:Int),0⟩
 x0:code[X]? = some ⟨2,1,0⟩
 x1:Cn code cs (X+1) (it 1)
 x2:code[X+2]? = some ⟨5,1,0⟩
 x3:code[X+3]? = some ⟨3,1,0⟩
 x4:code[X+4]? = some ⟨12,1,0⟩
 x5:code[X+5]? = some ⟨7,4,0⟩
 x6:code[X+6]? = some ⟨2,1,0⟩
 x7:code[X+7]? = some ⟨10,0,0⟩
 lt:X≤1000
variable {b:ByteArray} {code:List KI} {cs:List PV} {X:Nat} {n a:Int}
abbrev fnL (b:ByteArray) (cs:List PV) (code:List KI):List KF:=[⟨b,0,2,cs,code⟩]
abbrev sL (pc:Nat) (vs:List PV) (fu:Int) (ev:List SEv):SMc:=⟨[⟨0,pc,vs⟩],fu,ev⟩
theorem zL {K pc:Nat} {vs:List PV} {fu:Int} {ev:List SEv} {i:KI} {s':SMc} (hi:code[pc]? = some i) (hb:vs.length≤1000∧ev.length≤1000∧fu≤100000) (h:sIns (fnL b cs code) ⟨b,0,2,cs,code⟩ i ⟨0,pc,vs⟩ [] (sL pc vs fu ev)=some (s',0)):sGo (fnL b cs code) (K+1) (sL pc vs fu ev)=sGo (fnL b cs code) K s' :=
 sGo_on (by simp[sLen];omega) rfl hi h
theorem l_cn {K pc:Nat} {vs:List PV} {fu:Int} {ev:List SEv} {v:PV} (hc:Cn code cs pc v) (hb:vs.length≤1000∧ev.length≤1000∧fu≤100000):sGo (fnL b cs code) (K+1) (sL pc vs fu ev)=sGo (fnL b cs code) K (sL (pc+1) (vs++[v]) fu ev):=by
 obtain⟨i,h1,h2⟩:=hc;refine zL h1 hb ?_;show (match cs[((i:Nat):Int).toNat]? with | none=>none | some v=>if 0≤(i:Int) then some (sL (pc+1) (vs++[v]) fu ev,(0:Int)) else none)=_
 rw[Int.toNat_natCast,h2];exact if_pos (by omega)
theorem sPop_apL (us:List PV) (v:PV):sPop (us++[v])=some (us,v):=by
 unfold sPop;rw[List.getLast?_concat];simp
theorem l_br {K pc:Nat} {vs:List PV} {x:Int} {fu:Int} {ev:List SEv} {Y:Nat} (hi:code[pc]? = some ⟨8,(Y:Int),0⟩) (hY:Y≤1100) (hb:vs.length≤900∧ev.length≤1000∧fu≤100000):sGo (fnL b cs code) (K+1) (sL pc (vs++[it x]) fu ev)=sGo (fnL b cs code) K (sL (if x≠0 then pc+1 else Y) vs fu ev):=by
 refine zL hi (by simp;omega) ?_;unfold sIns;simp only;rw[sPop_apL];simp only[Int.toNat_natCast,tru_it,decide_eq_true_eq];simp;omega
theorem l_jp {K pc:Nat} {vs:List PV} {fu:Int} {ev:List SEv} {Y:Nat} (hi:code[pc]? = some ⟨7,(Y:Int),0⟩) (hY:Y≤1100) (hb:vs.length≤900∧ev.length≤1000∧fu≤100000):sGo (fnL b cs code) (K+1) (sL pc vs fu ev)=sGo (fnL b cs code) K (sL Y vs fu ev):=by
 refine zL hi (by omega) ?_;unfold sIns;simp;omega
theorem l_tk {K pc:Nat} {vs:List PV} {fu:Int} {ev:List SEv} (hi:code[pc]? = some ⟨12,1,0⟩) (h1:1≤fu) (hb:vs.length≤900∧ev.length≤1000∧fu≤100000):sGo (fnL b cs code) (K+1) (sL pc vs fu ev)=sGo (fnL b cs code) K (sL (pc+1) vs (fu - 1) (ev++[tk1])):=by
 refine zL hi (by omega) ?_;show some (SMc.tell _ _)=_;unfold SMc.tell;simp only;rw[if_neg (by omega)]
theorem l_rt {K pc:Nat} {vs:List PV} {v:PV} {fu:Int} {ev:List SEv} (hi:code[pc]? = some ⟨10,0,0⟩) (hb:vs.length≤900∧ev.length≤1000∧fu≤100000):sGo (fnL b cs code) (K+1) (sL pc (vs++[v]) fu ev)=some (sL 0 [v] fu ev,-1):=by
 refine sGo_end (by decide) (by simp[sLen];omega) rfl hi ?_;unfold sIns;simp only;rw[sPop_apL];rfl
theorem lp_ini (L:LpC code cs X n a) (K:Nat) (fu:Int) (hfu:fu≤100000):sGo (fnL b cs code) (K+4) (sL 0 [nilP,nilP] fu [])=sGo (fnL b cs code) K (sL 4 [it 0,it 0] fu []):=by
 rw[show K+4=(K+3)+1 from rfl,l_cn L.k0 (by simp;omega)];rw[show K+3=(K+2)+1 from rfl,zL (s':=sL 2 [it 0,nilP] fu []) L.k1 (by simp;omega) rfl];rw[show K+2=(K+1)+1 from rfl,l_cn L.k2 (by simp;omega)];rw[zL (s':=sL 4 [it 0,it 0] fu []) L.k3 (by simp;omega) rfl]
theorem qO (L:LpC code cs X n a) (K:Nat) (i k:Int) (fu:Int) (ev:List SEv) (he:ev.length≤900) (hfu:fu≤100000):sGo (fnL b cs code) (K+4) (sL 4 [it i,it k] fu ev)=sGo (fnL b cs code) K (sL (if i < n then 8 else X+6) [it i,it k] fu ev):=by
 have hl:=L.lt;rw[show K+4=(K+3)+1 from rfl,zL (s':=sL 5 [it i,it k,it i] fu ev) L.k4 (by simp;omega) rfl];rw[show K+3=(K+2)+1 from rfl,l_cn L.k5 (by simp;omega)];rw[show K+2=(K+1)+1 from rfl,zL (s':=sL 7 [it i,it k,it (if i < n then 1 else 0)] fu ev) L.k6 (by simp;omega) rfl]
 rw[show ([it i,it k,it (if i < n then 1 else 0)]:List PV) = [it i,it k]++[it (if i < n then 1 else 0)] from rfl,l_br L.k7 (by omega) (by simp;omega)]
 by_cases h:i < n
 ·rw[if_pos h,if_pos h,if_pos (by decide)]
 ·rw[if_neg h,if_neg h,if_neg (by decide)]
theorem lp_head (L:LpC code cs X n a) (K:Nat) (i k:Int) (hi:0≤i∧i≤1000) (fu:Int) (ev:List SEv) (he:ev.length≤900) (hfu:fu≤100000):sGo (fnL b cs code) (K+8) (sL 8 [it i,it k] fu ev)=sGo (fnL b cs code) K (sL (if i+1=a then 16 else X) [it (i+1),it k] fu ev):=by
 have hl:=L.lt;have hw:wrap64 (i+1)=i+1:=wrap_sm (by omega) (by omega);rw[show K+8=(K+7)+1 from rfl,zL (s':=sL 9 [it i,it k,it i] fu ev) L.k8 (by simp;omega) rfl];rw[show K+7=(K+6)+1 from rfl,l_cn L.k9 (by simp;omega)];rw[show K+6=(K+5)+1 from rfl,zL (s':=sL 11 [it i,it k,it (wrap64 (i+1))] fu ev) L.k10 (by simp;omega) rfl,hw];rw[show K+5=(K+4)+1 from rfl,zL (s':=sL 12 [it (i+1),it k] fu ev) L.k11 (by simp;omega) rfl];rw[show K+4=(K+3)+1 from rfl,zL (s':=sL 13 [it (i+1),it k,it (i+1)] fu ev) L.k12 (by simp;omega) rfl];rw[show K+3=(K+2)+1 from rfl,l_cn L.k13 (by simp;omega)];rw[show K+2=(K+1)+1 from rfl,zL (s':=sL 15 [it (i+1),it k,it (if i+1=a then 1 else 0)] fu ev) L.k14 (by simp;omega) rfl]
 rw[show ([it (i+1),it k,it (if i+1=a then 1 else 0)]:List PV) = [it (i+1),it k]++[it (if i+1=a then 1 else 0)] from rfl,l_br L.k15 (by omega) (by simp;omega)]
 by_cases h:i+1=a
 ·rw[if_pos h,if_pos h,if_pos (by decide)]
 ·rw[if_neg h,if_neg h,if_neg (by decide)]
theorem lp_back (L:LpC code cs X n a) (K:Nat) (i k:Int) (fu:Int) (ev:List SEv) (h1:1≤fu) (he:ev.length≤900) (hfu:fu≤100000):sGo (fnL b cs code) (K+2) (sL (X+4) [it i,it k] fu ev)=sGo (fnL b cs code) K (sL 4 [it i,it k] (fu - 1) (ev++[tk1])):=by
 rw[show K+2=(K+1)+1 from rfl,l_tk L.x4 h1 (by simp;omega)];rw[l_jp (Y:=4) L.x5 (by omega) (by simp;omega)]
theorem lp_tail (L:LpC code cs X n a) (K:Nat) (i k:Int) (hk:0≤k∧k≤1000) (fu:Int) (ev:List SEv) (h1:1≤fu) (he:ev.length≤900) (hfu:fu≤100000):sGo (fnL b cs code) (K+6) (sL X [it i,it k] fu ev)=sGo (fnL b cs code) K (sL 4 [it i,it (k+1)] (fu - 1) (ev++[tk1])):=by
 have hw:wrap64 (k+1)=k+1:=wrap_sm (by omega) (by omega);rw[show K+6=(K+5)+1 from rfl,zL (s':=sL (X+1) [it i,it k,it k] fu ev) L.x0 (by simp;omega) rfl];rw[show K+5=(K+4)+1 from rfl,l_cn L.x1 (by simp;omega)];rw[show K+4=(K+3)+1 from rfl,zL (s':=sL (X+3) [it i,it k,it (wrap64 (k+1))] fu ev) L.x2 (by simp;omega) rfl,hw];rw[show K+3=(K+2)+1 from rfl,zL (s':=sL (X+4) [it i,it (k+1)] fu ev) L.x3 (by simp;omega) rfl];exact lp_back L K i (k+1) fu ev h1 he hfu
theorem lp_end (L:LpC code cs X n a) (K:Nat) (i k:Int) (fu:Int) (ev:List SEv) (he:ev.length≤900) (hfu:fu≤100000):sGo (fnL b cs code) (K+2) (sL (X+6) [it i,it k] fu ev)=some (sL 0 [it k] fu ev,-1):=by
 rw[show K+2=(K+1)+1 from rfl,zL (s':=sL (X+7) [it i,it k,it k] fu ev) L.x6 (by simp;omega) rfl];exact l_rt (vs:=[it i,it k]) L.x7 (by simp;omega)
theorem qi (L:LpC code cs X n a) (K:Nat) (i:Nat) (k:Nat) (fu:Int) (ev:List SEv) (hfu:fu≤100000):∀ m:Nat,(i+m:Int)≤n→i+m≤500→k+m≤500→ev.length+m≤800→(m:Int)≤fu→(∀ j:Nat,i < j→j≤i+m→(j:Int)≠a∨X=16)→sGo (fnL b cs code) (K+18 * m) (sL 4 [it (i:Int),it (k:Int)] fu ev)=sGo (fnL b cs code) K (sL 4 [it ((i+m:Nat):Int),it ((k+m:Nat):Int)] (fu - m) (ev++List.replicate m tk1))
 | 0,_,_,_,_,_,_=>by simp
 | m+1,h1,h2,h3,h4,h5,h6=>by
  rw[show K+18 * (m+1)=(K+18)+18 * m by omega,qi L (K+18) i k fu ev hfu m (by omega) (by omega) (by omega) (by omega) (by omega) (fun j a b=>h6 j a (by omega))];have hl:(ev++List.replicate m tk1).length=ev.length+m:=by simp
  rw[show K+18=(K+14)+4 from rfl,qO L _ _ _ _ _ (by omega) (by omega),if_pos (by omega)];rw[show K+14=(K+6)+8 from rfl,lp_head L _ _ _ (by omega) _ _ (by omega) (by omega)];have hx:(if ((i+m:Nat):Int)+1=a then 16 else X)=X:=by
   split
   ·rename_i h
    rcases h6 (i+m+1) (by omega) (by omega) with h9 | h9
    ·exact absurd (by omega) h9
    ·exact h9.symm
   ·rfl
  rw[hx,lp_tail L _ _ _ (by omega) _ _ (by omega) (by omega) (by omega)];rw[List.replicate_succ',← List.append_assoc];have e1:((i+m:Nat):Int)+1=((i+(m+1):Nat):Int):=by omega
  have e2:((k+m:Nat):Int)+1=((k+(m+1):Nat):Int):=by omega
  have e3:fu - (m:Int) - 1=fu - ((m+1:Nat):Int):=by omega
  rw[e1,e2,e3]
theorem lp_fin (L:LpC code cs X n a) (N i k:Nat) (hn:n=(N:Int)) (hi:i≤N) (hN:N≤200) (hk:k≤200) (fu:Int) (ev:List SEv) (he:ev.length≤200) (h0:(N:Int)≤fu) (hfu:fu≤100000) (h6:∀ j:Nat,i < j→j≤N→(j:Int)≠a∨X=16):∃ (K:Nat) (s1:SMc),sGo (fnL b cs code) K (sL 4 [it (i:Int),it (k:Int)] fu ev)=some (s1,-1)∧flV s1.fr = [it ((k+(N - i):Nat):Int)]∧s1.ev.length=ev.length+(N - i):=by
 obtain⟨m,rfl⟩:∃ m,N=i+m:=⟨N - i,by omega⟩;have e:i+m - i=m:=by omega
 rw[e];refine⟨(0+2+4)+18 * m,sL 0 [it ((k+m:Nat):Int)] (fu - m) (ev++List.replicate m tk1),?_,rfl,by simp⟩;have hl:(ev++List.replicate m tk1).length=ev.length+m:=by simp
 rw[qi L (0+2+4) i k fu ev hfu m (by omega) (by omega) (by omega) (by omega) (by omega) h6,qO L _ _ _ _ _ (by omega) (by omega),if_neg (by omega)];exact lp_end L 0 _ _ _ _ (by omega) (by omega)
theorem loop_all (L:LpC code cs X n a) (N:Nat) (hn:n=(N:Int)) (hN:N≤200) (fu:Int) (h0:(N:Int)≤fu) (hfu:fu≤100000) (h6:∀ j:Nat,0 < j→j≤N→(j:Int)≠a∨X=16):∃ (K:Nat) (s1:SMc),sGo (fnL b cs code) K (sL 0 [nilP,nilP] fu [])=some (s1,-1)∧flV s1.fr = [it (N:Int)]∧s1.ev.length=N:=by
 obtain⟨K,s1,e1,e2,e3⟩:=lp_fin (b:=b) L N 0 0 hn (by omega) hN (by omega) fu [] (by simp) h0 hfu h6;refine⟨K+4,s1,?_,by rw[e2];simp,by rw[e3];simp⟩;rw[lp_ini L K fu hfu];exact e1
theorem qP (L:LpC code cs X n a) (N A:Nat) (hn:n=(N:Int)) (ha:a=(A:Int)) (hN:N≤200) (h1:1≤A) (h2:A≤N) (fu:Int) (h0:(N:Int)≤fu) (hfu:fu≤100000) (K:Nat):sGo (fnL b cs code) (K+8+4+18 * (A - 1)+4) (sL 0 [nilP,nilP] fu [])=sGo (fnL b cs code) K (sL 16 [it (A:Int),it ((A - 1:Nat):Int)] (fu - ((A - 1:Nat):Int)) (List.replicate (A - 1) tk1)):=by
 rw[lp_ini L _ fu hfu];have h:=qi (b:=b) L (K+8+4) 0 0 fu [] hfu (A - 1) (by omega) (by omega) (by omega) (by simp;omega) (by omega) (fun j p q=>Or.inl (by omega));simp only[Nat.zero_add,List.nil_append] at h;have hl:(List.replicate (A - 1) tk1).length=A - 1:=by simp
 rw[show ((0:Nat):Int)=0 from rfl] at h;rw[h,qO L _ _ _ _ _ (by omega) (by omega),if_pos (by omega),lp_head L _ _ _ (by omega) _ _ (by omega) (by omega),if_pos (by omega),show ((A - 1:Nat):Int)+1=(A:Int) by omega]
theorem loop_brk (L:LpC code cs X n a) (hc:code[16]? = some ⟨7,((X+6:Nat):Int),0⟩) (N A:Nat) (hn:n=(N:Int)) (ha:a=(A:Int)) (hN:N≤200) (h1:1≤A) (h2:A≤N) (fu:Int) (h0:(N:Int)≤fu) (hfu:fu≤100000):∃ (K:Nat) (s1:SMc),sGo (fnL b cs code) K (sL 0 [nilP,nilP] fu [])=some (s1,-1)∧flV s1.fr = [it ((A - 1:Nat):Int)]∧s1.ev.length=A - 1:=by
 have hl:(List.replicate (A - 1) tk1).length=A - 1:=by simp
 have hX:=L.lt;refine⟨_,sL 0 [it ((A - 1:Nat):Int)] (fu - ((A - 1:Nat):Int)) (List.replicate (A - 1) tk1),(qP (b:=b) L N A hn ha hN h1 h2 fu h0 hfu (0+2+1)).trans ?_,?_,?_⟩
 ·rw[l_jp hc (by omega) (by simp;omega)]
  exact lp_end L 0 _ _ _ _ (by omega) (by omega)
 ·rfl
 ·exact hl
theorem loop_ret (L:LpC code cs X n a) (hc:code[16]? = some ⟨2,1,0⟩) (hd:code[17]? = some ⟨10,0,0⟩) (N A:Nat) (hn:n=(N:Int)) (ha:a=(A:Int)) (hN:N≤200) (h1:1≤A) (h2:A≤N) (fu:Int) (h0:(N:Int)≤fu) (hfu:fu≤100000):∃ (K:Nat) (s1:SMc),sGo (fnL b cs code) K (sL 0 [nilP,nilP] fu [])=some (s1,-1)∧flV s1.fr = [it ((A - 1:Nat):Int)]∧s1.ev.length=A - 1:=by
 have hl:(List.replicate (A - 1) tk1).length=A - 1:=by simp
 refine⟨_,sL 0 [it ((A - 1:Nat):Int)] (fu - ((A - 1:Nat):Int)) (List.replicate (A - 1) tk1),(qP (b:=b) L N A hn ha hN h1 h2 fu h0 hfu (0+1+1)).trans ?_,?_,?_⟩
 ·rw[zL (s':=sL 17 [it (A:Int),it ((A - 1:Nat):Int),it ((A - 1:Nat):Int)] (fu - ((A - 1:Nat):Int)) (List.replicate (A - 1) tk1)) hc (by simp;omega) rfl]
  exact l_rt (vs:=[it (A:Int),it ((A - 1:Nat):Int)]) hd (by simp;omega)
 ·rfl
 ·exact hl
theorem loop_cnt (L:LpC code cs X n a) (hc:code[16]? = some ⟨7,((X+4:Nat):Int),0⟩) (N A:Nat) (hn:n=(N:Int)) (ha:a=(A:Int)) (hN:N≤200) (h1:1≤A) (h2:A≤N) (fu:Int) (h0:2 * (N:Int)+1≤fu) (hfu:fu≤100000):∃ (K:Nat) (s1:SMc),sGo (fnL b cs code) K (sL 0 [nilP,nilP] fu [])=some (s1,-1)∧flV s1.fr = [it ((N - 1:Nat):Int)]∧s1.ev.length=N:=by
 have hl:(List.replicate (A - 1) tk1).length=A - 1:=by simp
 have hX:=L.lt;obtain⟨K,s1,e1,e2,e3⟩:=lp_fin (b:=b) L N A (A - 1) hn h2 hN (by omega) (fu - ((A - 1:Nat):Int) - 1) (List.replicate (A - 1) tk1++[tk1]) (by simp;omega) (by omega) (by omega) (fun j p q=>Or.inl (by omega));refine⟨_,s1,(qP (b:=b) L N A hn ha hN h1 h2 fu (by omega) hfu (K+2+1)).trans ?_,?_,?_⟩
 ·rw[l_jp hc (by omega) (by simp;omega),lp_back L _ _ _ _ _ (by omega) (by omega) (by omega)]
  exact e1
 ·rw[e2,show A - 1+(N - A)=N - 1 by omega]
 ·rw[e3]
  simp;omega
end V
section
theorem okv_gcP (cs:List (Option Int)) (h:cs.all gcB=true):(cs.map gcP).all V.okv=true:=by
 rw[List.all_map];refine List.all_eq_true.2 fun x _ => ?_;cases x with
 | none=>exact(show V.okv (gcP none)=true by kernel_rfl)
 | some n=>exact V.okv_it n
theorem zi {cs:List (Option Int)} {i:Nat} {v:Option Int} (h:cs[i]? = some v):(cs.map gcP)[i]? = some (gcP v):=by
 rw[List.getElem?_map,h];rfl
theorem st_cn {cs:List (Option Int)} {code:List V.KI} {i:Nat} {v:Option Int} (h:cs[i]? = some v):V.kStand (V.fnL nmM (cs.map gcP) code) ⟨nmM,0,2,cs.map gcP,code⟩ ⟨1,(i:Int),0⟩=true:=by
 have h1:=(List.getElem?_eq_some_iff.1 h).1;have h2:V.kPl (i:Int) ((cs.map gcP).length:Nat)=true:=by
  unfold V.kPl;rw[List.length_map];exact decide_eq_true (by omega)
 show (true && V.kPl (i:Int) ((cs.map gcP).length:Nat))=true;rw[h2];rfl
def bdI (i:V.KI):Bool:=decide (-100000≤i.a∧i.a≤100000∧-100000≤i.b∧i.b≤100000)
theorem bd_cn {cs:List (Option Int)} {i:Nat} {v:Option Int} (h:cs[i]? = some v) (hl:cs.length≤10):bdI ⟨1,(i:Int),0⟩=true:=by
 have h1:=(List.getElem?_eq_some_iff.1 h).1;exact decide_eq_true (by simp only;omega)
def PrU (h X:Nat) (n a:Nat) (cs:List (Option Int)) (code:List V.KI) (hs:List Int):Prop :=
 docP (fsU h n a)=([⟨2,if h=2 then qh else zU,[]⟩],0)∧qq 60 (fsU h n a) [⟨2,if h=2 then qh else zU,[]⟩] 0 []=some (V.fnL nmM (cs.map gcP) code)∧V.LpC code (cs.map gcP) X (n:Int) (a:Int)∧V.kHgt (V.fnL nmM (cs.map gcP) code) 0 1000=some (hs,0)∧hs.length=code.length∧0 < code.length∧code.length≤100∧cs.length≤10∧V.KBd code
theorem hgt_of {cs:List (Option Int)} {code:List V.KI} {hs:List Int} (hc:cs.all gcB=true) (h0:0 < code.length) (h1:code.length≤1000) (h2:code.all (V.kStand (V.fnL nmM (cs.map gcP) code) ⟨nmM,0,2,cs.map gcP,code⟩)=true) (h3:V.kHts code 1000=some (some hs)) (h4:V.kTicked code hs 1000=some true):V.kHgt (V.fnL nmM (cs.map gcP) code) 0 1000=some (hs,0):=by
 have hf:V.kForm (V.fnL nmM (cs.map gcP) code) ((0:Nat):Int)=true:=by
  rw[V.kForm_at (f:=⟨nmM,0,2,cs.map gcP,code⟩) rfl];show (true && (true && (true && (decide (0 < code.length∧code.length≤1000) && ((cs.map gcP).all V.okv && code.all _)))))=true;rw[h2,okv_gcP cs hc,decide_eq_true ⟨h0,h1⟩];rfl
 unfold V.kHgt;rw[if_pos (show V.kForm (V.fnL nmM (cs.map gcP) code) 0=true from hf)];rw[show (V.fnL nmM (cs.map gcP) code)[Int.toNat 0]? = some ⟨nmM,0,2,cs.map gcP,code⟩ from rfl];simp only;rw[h3];simp only;rw[h4];rfl
theorem chk_loops {cs:List (Option Int)} {code:List V.KI} {hs:List Int} (h:V.kHgt (V.fnL nmM (cs.map gcP) code) 0 1000=some (hs,0)):V.kChk (V.fnL nmM (cs.map gcP) code) 0 1000=some 0:=by
 show (match V.kHgt (V.fnL nmM (cs.map gcP) code) 0 1000 with | none=>none | some q=>if q.2=0 then V.kChkL _ 1000 0 1 else some q.2)=some 0
 rw[h];rfl
theorem bnd_of {l:List V.KI} (h:l.all bdI=true):V.KBd l:=bnd_code h
theorem qu {h X n a sp:Nat} {idx:List Nat} {cs:List (Option Int)} {code:List V.KI} {hs:List Int} {sl:List Int} (r:List V.KI) (hsl:sl=if h=2 then qh else zU) (hd:docP (fsU h n a)=([⟨2,sl,[]⟩],0)) (e:qw 60 ⟨nmM,[],bdU h n a⟩ ⟨2,sl,[]⟩ 0=some ⟨code,cs,sp,0,1,[],[]⟩) (hL:V.LpC code (cs.map gcP) X (n:Int) (a:Int)) (hall:cs.all gcB=true) (hlen:cs.length≤10) (h01:0 < code.length∧code.length≤100) (hp:∀ p:V.KI→Bool,r.all p=true→(∀ i ∈ idx,p ⟨1,((i:Nat):Int),0⟩=true)→code.all p=true) (s1:r.all (V.kStand (V.fnL nmM (cs.map gcP) code) ⟨nmM,0,2,cs.map gcP,code⟩)=true) (s2:r.all bdI=true) (hin:∀ i ∈ idx,∃ v,cs[i]? = some v) (hh:hs.length=code.length) (h3:V.kHts code 1000=some (some hs)) (h4:V.kTicked code hs 1000=some true):PrU h X n a cs code hs:=by
 subst hsl;refine⟨hd,?_,hL,hgt_of hall h01.1 (by omega) (hp _ s1 fun i hi => ?_) h3 h4,hh,h01.1,h01.2,hlen,bnd_of (hp _ s2 fun i hi => ?_)⟩
 ·show qq 60 [⟨nmM,[],bdU h n a⟩] [⟨2,if h=2 then qh else zU,[]⟩] 0 []=_
  rw[qq,e];simp only;rw[if_pos ⟨by omega,by show (1:Int)≤4095;omega⟩,qq];rfl
 ·obtain⟨v,hv⟩:=hin i hi
  exact st_cn hv
 ·obtain⟨v,hv⟩:=hin i hi
  exact bd_cn hv hlen
theorem nX_condU (n:Int):nX ⟨11,8,zE,0,[⟨19,0,⟨#[105]⟩,0,[]⟩,⟨15,0,zE,n,[]⟩]⟩:=⟨5,by simp[nXf,sz_lit]⟩
theorem main_loops (h:Nat) (n a:Int):zH (fsU h n a) 0 0=0:=by kernel_rfl
theorem too_loops (h:Nat) (n a:Int):tooP (fsU h n a)=false:=by kernel_rfl
theorem zJ (h:Nat) (hh:h < 4) (n a:Int):(∀ p ∈ fsU h n a,gX p.bd∧p.ps.length≤1000∧nsz p.bd≤5000)∧(fsU h n a).length≤16:=by
 refine⟨fun p hp => ?_,by simp[fsU]⟩;rcases List.mem_cons.1 hp with rfl | hp
 ·rcases (show h=0∨h=1∨h=2∨h=3 by omega) with rfl | rfl | rfl | rfl
  all_goals
   refine⟨⟨20,?_⟩,by simp,by simp[nsz,nszL,bdU,blkM,opM,howN,vI,vK,nN]⟩;simp[gXf,bdU,blkM,opM,howN,vI,vK,nN,sz_lit,nX_condU]
 ·cases hp
theorem doc_loops0 (n a:Int):docP (fsU 0 n a)=([⟨2,zU,[]⟩],0):=by kernel_rfl
theorem all_loops0 (p:V.KI→Bool) (z y N o A q l:Nat) (hp:[⟨3,0,0⟩,⟨3,1,0⟩,⟨2,0,0⟩,⟨2,1,0⟩,⟨5,8,0⟩,⟨5,1,0⟩,⟨5,6,0⟩,⟨10,0,0⟩,⟨12,1,0⟩,⟨7,4,0⟩,⟨8,23,0⟩,⟨8,17,0⟩,⟨7,23,0⟩,⟨7,21,0⟩].all p=true) (hz:∀ i ∈ [z,y,N,o,A,q,l],p ⟨1,((i:Nat):Int),0⟩=true):(zY z y N o A q l).all p=true:=by
 refine List.all_eq_true.2 fun i hi => ?_;simp only[zY,List.mem_cons,List.not_mem_nil,or_false] at hi;simp only[List.all_cons,List.all_nil,Bool.and_eq_true,Bool.and_true] at hp;obtain⟨p0,p1,p2,p3,p4,p5,p6,p7,p8,p9,p10,p11,p12,p13⟩:=hp;rcases hi with rfl | rfl | rfl | rfl | rfl | rfl | rfl | rfl | rfl | rfl | rfl | rfl | rfl | rfl | rfl | rfl | rfl | rfl | rfl | rfl | rfl | rfl | rfl | rfl | rfl | rfl | rfl <;> first | assumption | exact hz _ (by simp)
theorem hts_loops0 (z y N o A q l:Nat):V.kHts (zY z y N o A q l) 1000=some (some [0,1,0,1,0,1,2,1,0,1,2,1,0,1,2,1,0,0,1,2,1,0,0,0,1,-1,-1]):=by kernel_rfl
theorem tkd_loops0 (z y N o A q l:Nat):V.kTicked (zY z y N o A q l) [0,1,0,1,0,1,2,1,0,1,2,1,0,1,2,1,0,0,1,2,1,0,0,0,1,-1,-1] 1000=some true:=by kernel_rfl
theorem prog_loops0 (n a:Nat) (hn:n≤1000) (ha:a≤1000):∃ cs code hs,PrU 0 17 n a cs code hs∧code[16]? = some ⟨7,((17+6:Nat):Int),0⟩:=by
 obtain⟨z,y,N,o,A,q,l,cs,e,gz,gy,gN,go,gA,gq,gl,hall,hlen⟩:=one_loops0 n a hn ha;have hin:∀ i ∈ [z,y,N,o,A,q,l],∃ v,cs[i]? = some v:=by
  intro i hi;simp only[List.mem_cons,List.not_mem_nil,or_false] at hi;rcases hi with rfl | rfl | rfl | rfl | rfl | rfl | rfl
  all_goals exact⟨_,by assumption⟩
 exact⟨cs,zY z y N o A q l,[0,1,0,1,0,1,2,1,0,1,2,1,0,1,2,1,0,0,1,2,1,0,0,0,1,-1,-1],qu _ rfl (doc_loops0 _ _) e ⟨⟨z,rfl,zi gz⟩,rfl,⟨y,rfl,zi gy⟩,rfl,rfl,⟨N,rfl,zi gN⟩,rfl,rfl,rfl,⟨o,rfl,zi go⟩,rfl,rfl,rfl,⟨A,rfl,zi gA⟩,rfl,rfl,rfl,⟨q,rfl,zi gq⟩,rfl,rfl,rfl,rfl,rfl,rfl,by omega⟩ hall hlen ⟨by show 0 < 27;omega,by show 27≤100;omega⟩ (fun p=>all_loops0 p z y N o A q l) rfl rfl hin rfl (hts_loops0 z y N o A q l) (tkd_loops0 z y N o A q l),rfl⟩
theorem doc_loops1 (n a:Int):docP (fsU 1 n a)=([⟨2,zU,[]⟩],0):=by kernel_rfl
theorem all_loops1 (p:V.KI→Bool) (z y N o A q l:Nat) (hp:[⟨3,0,0⟩,⟨3,1,0⟩,⟨2,0,0⟩,⟨2,1,0⟩,⟨5,8,0⟩,⟨5,1,0⟩,⟨5,6,0⟩,⟨10,0,0⟩,⟨12,1,0⟩,⟨7,4,0⟩,⟨8,23,0⟩,⟨8,17,0⟩,⟨7,23,0⟩,⟨7,21,0⟩].all p=true) (hz:∀ i ∈ [z,y,N,o,A,q,l],p ⟨1,((i:Nat):Int),0⟩=true):(zZ z y N o A q l).all p=true:=by
 refine List.all_eq_true.2 fun i hi => ?_;simp only[zZ,List.mem_cons,List.not_mem_nil,or_false] at hi;simp only[List.all_cons,List.all_nil,Bool.and_eq_true,Bool.and_true] at hp;obtain⟨p0,p1,p2,p3,p4,p5,p6,p7,p8,p9,p10,p11,p12,p13⟩:=hp;rcases hi with rfl | rfl | rfl | rfl | rfl | rfl | rfl | rfl | rfl | rfl | rfl | rfl | rfl | rfl | rfl | rfl | rfl | rfl | rfl | rfl | rfl | rfl | rfl | rfl | rfl | rfl | rfl <;> first | assumption | exact hz _ (by simp)
theorem hts_loops1 (z y N o A q l:Nat):V.kHts (zZ z y N o A q l) 1000=some (some [0,1,0,1,0,1,2,1,0,1,2,1,0,1,2,1,0,0,1,2,1,0,0,0,1,-1,-1]):=by kernel_rfl
theorem tkd_loops1 (z y N o A q l:Nat):V.kTicked (zZ z y N o A q l) [0,1,0,1,0,1,2,1,0,1,2,1,0,1,2,1,0,0,1,2,1,0,0,0,1,-1,-1] 1000=some true:=by kernel_rfl
theorem prog_loops1 (n a:Nat) (hn:n≤1000) (ha:a≤1000):∃ cs code hs,PrU 1 17 n a cs code hs∧code[16]? = some ⟨7,((17+4:Nat):Int),0⟩:=by
 obtain⟨z,y,N,o,A,q,l,cs,e,gz,gy,gN,go,gA,gq,gl,hall,hlen⟩:=one_loops1 n a hn ha;have hin:∀ i ∈ [z,y,N,o,A,q,l],∃ v,cs[i]? = some v:=by
  intro i hi;simp only[List.mem_cons,List.not_mem_nil,or_false] at hi;rcases hi with rfl | rfl | rfl | rfl | rfl | rfl | rfl
  all_goals exact⟨_,by assumption⟩
 exact⟨cs,zZ z y N o A q l,[0,1,0,1,0,1,2,1,0,1,2,1,0,1,2,1,0,0,1,2,1,0,0,0,1,-1,-1],qu _ rfl (doc_loops1 _ _) e ⟨⟨z,rfl,zi gz⟩,rfl,⟨y,rfl,zi gy⟩,rfl,rfl,⟨N,rfl,zi gN⟩,rfl,rfl,rfl,⟨o,rfl,zi go⟩,rfl,rfl,rfl,⟨A,rfl,zi gA⟩,rfl,rfl,rfl,⟨q,rfl,zi gq⟩,rfl,rfl,rfl,rfl,rfl,rfl,by omega⟩ hall hlen ⟨by show 0 < 27;omega,by show 27≤100;omega⟩ (fun p=>all_loops1 p z y N o A q l) rfl rfl hin rfl (hts_loops1 z y N o A q l) (tkd_loops1 z y N o A q l),rfl⟩
theorem doc_loops2 (n a:Int):docP (fsU 2 n a)=([⟨2,qh,[]⟩],0):=by kernel_rfl
theorem all_loops2 (p:V.KI→Bool) (z y N o A q l:Nat) (hp:[⟨3,0,0⟩,⟨3,1,0⟩,⟨2,0,0⟩,⟨2,1,0⟩,⟨5,8,0⟩,⟨5,1,0⟩,⟨5,6,0⟩,⟨10,0,0⟩,⟨12,1,0⟩,⟨7,4,0⟩,⟨8,24,0⟩,⟨8,18,0⟩,⟨7,24,0⟩,⟨7,22,0⟩].all p=true) (hz:∀ i ∈ [z,y,N,o,A,q,l],p ⟨1,((i:Nat):Int),0⟩=true):(qd z y N o A q l).all p=true:=by
 refine List.all_eq_true.2 fun i hi => ?_;simp only[qd,List.mem_cons,List.not_mem_nil,or_false] at hi;simp only[List.all_cons,List.all_nil,Bool.and_eq_true,Bool.and_true] at hp;obtain⟨p0,p1,p2,p3,p4,p5,p6,p7,p8,p9,p10,p11,p12,p13⟩:=hp;rcases hi with rfl | rfl | rfl | rfl | rfl | rfl | rfl | rfl | rfl | rfl | rfl | rfl | rfl | rfl | rfl | rfl | rfl | rfl | rfl | rfl | rfl | rfl | rfl | rfl | rfl | rfl | rfl | rfl <;> first | assumption | exact hz _ (by simp)
theorem hts_loops2 (z y N o A q l:Nat):V.kHts (qd z y N o A q l) 1000=some (some [0,1,0,1,0,1,2,1,0,1,2,1,0,1,2,1,0,1,0,1,2,1,0,0,0,1,-1,-1]):=by kernel_rfl
theorem tkd_loops2 (z y N o A q l:Nat):V.kTicked (qd z y N o A q l) [0,1,0,1,0,1,2,1,0,1,2,1,0,1,2,1,0,1,0,1,2,1,0,0,0,1,-1,-1] 1000=some true:=by kernel_rfl
theorem prog_loops2 (n a:Nat) (hn:n≤1000) (ha:a≤1000):∃ cs code hs,PrU 2 18 n a cs code hs∧code[16]? = some ⟨2,1,0⟩∧code[17]? = some ⟨10,0,0⟩:=by
 obtain⟨z,y,N,o,A,q,l,cs,e,gz,gy,gN,go,gA,gq,gl,hall,hlen⟩:=one_loops2 n a hn ha;have hin:∀ i ∈ [z,y,N,o,A,q,l],∃ v,cs[i]? = some v:=by
  intro i hi;simp only[List.mem_cons,List.not_mem_nil,or_false] at hi;rcases hi with rfl | rfl | rfl | rfl | rfl | rfl | rfl
  all_goals exact⟨_,by assumption⟩
 exact⟨cs,qd z y N o A q l,[0,1,0,1,0,1,2,1,0,1,2,1,0,1,2,1,0,1,0,1,2,1,0,0,0,1,-1,-1],qu _ rfl (doc_loops2 _ _) e ⟨⟨z,rfl,zi gz⟩,rfl,⟨y,rfl,zi gy⟩,rfl,rfl,⟨N,rfl,zi gN⟩,rfl,rfl,rfl,⟨o,rfl,zi go⟩,rfl,rfl,rfl,⟨A,rfl,zi gA⟩,rfl,rfl,rfl,⟨q,rfl,zi gq⟩,rfl,rfl,rfl,rfl,rfl,rfl,by omega⟩ hall hlen ⟨by show 0 < 28;omega,by show 28≤100;omega⟩ (fun p=>all_loops2 p z y N o A q l) rfl rfl hin rfl (hts_loops2 z y N o A q l) (tkd_loops2 z y N o A q l),rfl,rfl⟩
theorem doc_loops3 (n a:Int):docP (fsU 3 n a)=([⟨2,zU,[]⟩],0):=by kernel_rfl
theorem all_loops3 (p:V.KI→Bool) (z y N o A q l:Nat) (hp:[⟨3,0,0⟩,⟨3,1,0⟩,⟨2,0,0⟩,⟨2,1,0⟩,⟨5,8,0⟩,⟨5,1,0⟩,⟨5,6,0⟩,⟨10,0,0⟩,⟨12,1,0⟩,⟨7,4,0⟩,⟨8,22,0⟩,⟨8,16,0⟩,⟨7,22,0⟩,⟨7,20,0⟩].all p=true) (hz:∀ i ∈ [z,y,N,o,A,q,l],p ⟨1,((i:Nat):Int),0⟩=true):(qe z y N o A q l).all p=true:=by
 refine List.all_eq_true.2 fun i hi => ?_;simp only[qe,List.mem_cons,List.not_mem_nil,or_false] at hi;simp only[List.all_cons,List.all_nil,Bool.and_eq_true,Bool.and_true] at hp;obtain⟨p0,p1,p2,p3,p4,p5,p6,p7,p8,p9,p10,p11,p12,p13⟩:=hp;rcases hi with rfl | rfl | rfl | rfl | rfl | rfl | rfl | rfl | rfl | rfl | rfl | rfl | rfl | rfl | rfl | rfl | rfl | rfl | rfl | rfl | rfl | rfl | rfl | rfl | rfl | rfl <;> first | assumption | exact hz _ (by simp)
theorem hts_loops3 (z y N o A q l:Nat):V.kHts (qe z y N o A q l) 1000=some (some [0,1,0,1,0,1,2,1,0,1,2,1,0,1,2,1,0,1,2,1,0,0,0,1,-1,-1]):=by kernel_rfl
theorem tkd_loops3 (z y N o A q l:Nat):V.kTicked (qe z y N o A q l) [0,1,0,1,0,1,2,1,0,1,2,1,0,1,2,1,0,1,2,1,0,0,0,1,-1,-1] 1000=some true:=by kernel_rfl
theorem prog_loops3 (n a:Nat) (hn:n≤1000) (ha:a≤1000):∃ cs code hs,PrU 3 16 n a cs code hs:=by
 obtain⟨z,y,N,o,A,q,l,cs,e,gz,gy,gN,go,gA,gq,gl,hall,hlen⟩:=one_loops3 n a hn ha;have hin:∀ i ∈ [z,y,N,o,A,q,l],∃ v,cs[i]? = some v:=by
  intro i hi;simp only[List.mem_cons,List.not_mem_nil,or_false] at hi;rcases hi with rfl | rfl | rfl | rfl | rfl | rfl | rfl
  all_goals exact⟨_,by assumption⟩
 exact⟨cs,qe z y N o A q l,[0,1,0,1,0,1,2,1,0,1,2,1,0,1,2,1,0,1,2,1,0,0,0,1,-1,-1],qu _ rfl (doc_loops3 _ _) e ⟨⟨z,rfl,zi gz⟩,rfl,⟨y,rfl,zi gy⟩,rfl,rfl,⟨N,rfl,zi gN⟩,rfl,rfl,rfl,⟨o,rfl,zi go⟩,rfl,rfl,rfl,⟨A,rfl,zi gA⟩,rfl,rfl,rfl,⟨q,rfl,zi gq⟩,rfl,rfl,rfl,rfl,rfl,rfl,by omega⟩ hall hlen ⟨by show 0 < 26;omega,by show 26≤100;omega⟩ (fun p=>all_loops3 p z y N o A q l) rfl rfl hin rfl (hts_loops3 z y N o A q l) (tkd_loops3 z y N o A q l)⟩
end
section
variable {w w' w2:World}
theorem made_of (s:ByteArray) (F f K:Nat) (fs:List PFn) (sc:List PSc) (fns:List V.KF) (hmax:s.size≤9223372036854775807) (hF:(begP s).ts.length < F) (hF2:F≤90000) (hrd:(rdP s F).1=fs) (hre:(rdP s F).2.e=0) (htoo:tooP fs=false) (hfm:(∀ p ∈ fs,gX p.bd∧p.ps.length≤1000∧nsz p.bd≤5000)∧fs.length≤16) (hK:K≤1000000) (hd:docP fs=(sc,0)) (hr:qq f fs sc 0 []=some fns) (hv:∀ (z:Nat) (q:V.KF),fns[z]? = some q→V.HdOk q∧∃ hs:List Int,hs.length=q.code.length∧V.kHgt fns (z:Int) K=some (hs,0)) (hB:V.KfB fns) :
  Calls Tryz.prog 8 #[.string s] w fun e' w' => ∃ pa pc,e' = .returned (.tuple #[V.kpV pa fns.length pc (zH fs 0 0),.bool true])∧V.RepP w' (V.In w') pa fns∧Ext w w':=by
 have HT:=zh (fun W=>rprog_any s F W hmax hF hF2);have HP:=zh (fun (W:World) (fa:Option Addr) (fc:Nat) (h1:RepFL W (fun b=>b < W.heap.size) fs fa) (h2:fs.length≤fc)=>rprogram_ok (w:=W) f K fs sc fns fa fc hK h1 h2 hfm.2 (fun p hp=>(hfm.1 p hp).2.1) (fun p hp=>(hfm.1 p hp).1) (fun p hp=>(hfm.1 p hp).2.2) hd hr hv hB);have HRD:=zh hrd;have HRE:=zh hre;have HTO:=zh htoo;generalize zH fs 0 0=M at *;clear hmax hF hF2 hrd hre htoo hd hr hv hB hfm
 go_enter Tryz.func8,Tryz.ntmps8
 go_wp2_with (first
  | (go_at_call 14;refine Calls.mono (zu HT _) ?_;rintro e w1 ⟨hx,⟨h9,_⟩ | ⟨_,h9,_⟩ | ⟨_,_,fa,fc,rfl,hfc,hrf⟩⟩;(exact absurd (zu HRE) h9);(rw[zu HRD,zu HTO] at h9;cases h9);rw[zu HRD] at hfc hrf;rw[zu HRD];have r1:=hx.row (Go.heap_alloc_new w _);have X1:=zh hx;have HRF:=zh hrf;have hfc1:=hfc;clear hx hrf hfc)
  | (go_at_call 15;go_loud (refine Calls.mono (zu HP _ fa fc (RepFL.to (fun b hb=>⟨Nat.lt_of_lt_of_le hb (Ext.alloc _ _).size,(Ext.alloc _ _).block b hb⟩) (zu HRF)) hfc1) ?_;rintro e w3 ⟨pa,pc,rfl,hR,hX⟩;have r3:=((Ext.alloc w1 _).trans hX).row r1;have X3:=zh ((Ext.alloc w _).trans (((zu X1).trans (Ext.alloc _ _)).trans hX));have R3:=zh hR;have hlt3:w.heap.size < w3.heap.size:=(Array.getElem?_eq_some_iff.1 r3).1;have hne3:w.heap.size≠w3.heap.size:=Nat.ne_of_lt hlt3;have k0:=fun ob=>zr ((Ext.alloc w3 ob).row r3) 0 rfl;have k1:=fun ob=>zr ((Ext.alloc w3 ob).row r3) 1 rfl;have kf:=fun ob=>rowF ((Ext.alloc w3 ob).row r3);have s1:=fun ob v=>zr ((Ext.alloc _ ob).row (row_set r3 0 v)) 1 rfl;have sf:=fun ob v=>rowF ((Ext.alloc _ ob).row (row_set r3 0 v));have R3r:=zh r3;clear r3;clear hR hX r1)))
 obtain⟨W9,hW9⟩:∃ W9,W9=(((w3.setCell ⟨w.heap.size,0,none⟩ (Value.slice pa fns.length pc)).setCell ⟨w.heap.size,1,none⟩ (Value.int IntKind.i64 M)).alloc (Obj.cells #[Value.slice pa fns.length pc,Value.int IntKind.i64 M] 26)):=⟨_,rfl⟩;rw[← hW9];have b9:W9.heap[w.heap.size]? = some (.cells #[.slice pa fns.length pc,.int .i64 M] 26 (0,0)):=by
  rw[hW9];exact(Ext.alloc _ _).row (row_set (row_set (zu R3r) 0 _) 1 _)
 have k9:∀ q,q < w3.heap.size→q≠w.heap.size→W9.heap[q]? = w3.heap[q]?:=fun q hq hn=>by
  rw[hW9,(Ext.alloc _ _).block q (by simpa [World.setCell] using hq),Below.heap_setCell _ _ _ _ (by exact hn),Below.heap_setCell _ _ _ _ (by exact hn)]
 have X9:Ext w W9:=by
  rw[hW9];exact(((zu X3).set (Nat.le_refl _) _).set (Nat.le_refl _) _).trans (Ext.alloc _ _)
 have s9:w3.heap.size≤W9.heap.size:=by
  rw[hW9];simp[World.setCell]
 have u0:=zr b9 0 rfl;have u1:=zr b9 1 rfl;clear hW9 k0 k1 kf s1 sf;exact bodyPost_ret (v:=.tuple #[V.kpV pa fns.length pc M,.bool true]) (by simp[results,Tryz.results8,go_sem,u0,u1]) rfl ⟨pa,pc,rfl,V.RepP.to (fun q hq=>⟨Nat.lt_of_lt_of_le hq.2 s9,k9 q hq.2 (by have h1:=hq.1;have h2:=(zu X1).size;simp at h1 h2;omega)⟩) (zu R3),X9⟩
end
end Go.Proofs.YtdnclahaejlehaaGreat
