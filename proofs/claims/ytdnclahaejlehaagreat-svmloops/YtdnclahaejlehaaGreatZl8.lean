/- What the document fixes of layer 9. -/
import Derived.Test.YtdnclahaejlehaaGreatZl7
import Derived.Test.YtdnclahaejlehaaGreatZk42
set_option linter.unusedSimpArgs false
set_option linter.unusedVariables false
set_option maxRecDepth 10000
set_option maxHeartbeats 8000000
namespace Go.Proofs.YtdnclahaejlehaaGreat
open Go.RowKit
section
variable {w w' w2:World}
def awTS:List UInt8:=[102,110,32,109,97,105,110,40,41,32,123,32,112,114,105,110,116,32,49,59,32,125]
def fsAS:List PFn:=[⟨nmM,[],⟨10,0,zE,0,[⟨8,0,zE,0,[nN 1]⟩]⟩⟩]
def qt:List V.KF:=[⟨nmM,0,0,[V.it 1,V.nilP],[⟨1,0,0⟩,⟨11,0,0⟩,⟨1,1,0⟩,⟨10,0,0⟩]⟩]
theorem aw_rdS:rdL awTS 60=(fsAS,⟨[],0,0,0⟩):=by kernel_rfl
theorem aw_begS:(begL awTS).ts.length < 60:=by
 have h:(begL awTS).ts.length=9:=by kernel_rfl
 omega
theorem aw_docS:docP fsAS=([⟨0,[],[]⟩],0):=by kernel_rfl
theorem aw_fnsS:qq 60 fsAS [⟨0,[],[]⟩] 0 []=some qt:=by kernel_rfl
theorem aw_hgtS:V.kHgt qt 0 1000=some ([0,1,0,1],0):=by kernel_rfl
theorem aw_chkS:V.kChk qt 0 1000=some 0:=by kernel_rfl
theorem qQ:V.KfB qt:=by
 intro f hf;rcases List.mem_cons.1 hf with rfl | hf
 ·exact⟨by show 2≤1000000;omega,by show 4≤1000000;omega,bnd_code (l:=[⟨1,0,0⟩,⟨11,0,0⟩,⟨1,1,0⟩,⟨10,0,0⟩]) (by decide)⟩
 ·cases hf
theorem aw_hvS (z:Nat) (q:V.KF) (h:qt[z]? = some q):V.HdOk q∧∃ hs:List Int,hs.length=q.code.length∧V.kHgt qt (z:Int) 1000=some (hs,0):=by
 match z,h with
 | 0,h =>
  injection h with h;subst h;exact⟨⟨lf_gcP [some 1,none],rfl,by show (0:Int)≤0;omega,by show (0:Int)≤64;omega,by show 0 < 4;omega,by show 4≤1000;omega⟩,_,rfl,aw_hgtS⟩
 | z+1,h=>cases h
theorem aw_formS:(∀ p ∈ fsAS,gX p.bd∧p.ps.length≤1000∧nsz p.bd≤5000)∧fsAS.length≤16:=by
 refine⟨fun p hp => ?_,by simp[fsAS]⟩;rcases List.mem_cons.1 hp with rfl | hp
 ·refine⟨⟨20,?_⟩,by simp,by simp[nsz,nszL,vN,nN]⟩
  simp[gXf,vN,nN,sz_lit]
 ·cases hp
theorem made_awS (w:World):Calls Tryz.prog 8 #[.string ⟨awTS.toArray⟩] w fun e' w' => ∃ pa pc,e' = .returned (.tuple #[V.kpV pa 1 pc 0,.bool true])∧V.RepP w' (V.In w') pa qt∧Ext w w':=by
 have h:=made_of (w:=w) ⟨awTS.toArray⟩ 60 60 1000 fsAS [⟨0,[],[]⟩] qt (by decide) (by rw[begP_L];exact aw_begS) (by omega) (by rw[rdP_L,aw_rdS]) (by rw[rdP_L,aw_rdS]) (by kernel_rfl) aw_formS (by omega) aw_docS aw_fnsS aw_hvS qQ;rw[show zH fsAS 0 0=0 by kernel_rfl] at h;exact h
theorem cp_it (x:Int):V.cp (V.it x)=V.it x:=by
 unfold V.cp;have h:V.tk (V.it x)=V.it x:=by unfold V.tk;rw[V.okv_it,if_pos rfl]
 rw[h];rfl
theorem run_awS (pa:Option Addr) (pc:Nat) (w:World) (hp:V.RepP w (V.In w) pa qt):Calls Tryz.prog 9 #[V.kpV pa 1 pc 0,.int .i64 9] w fun en w'=>Ext w w'∧∃ b ec x0 x1 x2 x3 x4 x5 x6 x7,en = .returned (.tuple #[V.trV (some ⟨b,0,none⟩) 1 ec (.int .i64 x0) (.int .i64 x1) (.complex .f64 x2 x3) (.string x4) (.slice x5 x6 x7) 0,.int .i64 0])∧w'.cell? ⟨b,0,none⟩=some (.int .i64 2)∧w'.cell? ⟨b,3,none⟩=some (.int .i64 1):=by
 have hg:V.sGo qt 10 ⟨[⟨0,0,List.replicate 0 V.nilP⟩],min 9 100000,[]⟩=some (⟨[⟨0,0,[V.nilP]⟩],8,[⟨2,0,V.cp (V.it 1)⟩]⟩,-1):=by kernel_rfl
 have h:=V.svmrun_m qt pa pc 0 10 1000 _ _ (-1) (V.cp V.nilP) V.nilP (rfl:qt[0]? = some _) 0 rfl rfl (by omega) 9 hp (fun f hf=>(qQ f hf).2.1) (by show 1≤1000000;omega) qQ (by omega) aw_chkS hg (fun _=>⟨rfl,rfl⟩) (fun h=>absurd rfl h);refine Calls.mono h ?_;rintro en w' ⟨hX,ea,ec,a,cap,rfl,evs,hev,hc⟩;obtain⟨a',cap',rest,rfl,hr⟩:=hev;rcases hc with hc | ⟨b,cur,rfl,hb,hc⟩
 ·simp[V.evC] at hc
 ·rw[cp_it] at hc
  exact⟨hX,b,ec,_,_,_,_,_,_,_,_,rfl,hc 0 _ rfl,hc 3 _ rfl⟩
theorem awake9_w (w:World):Calls Tryz.prog 10 #[] w fun e w'=>e = .returned (.bool true)∧Ext w w':=by
 have HM:=zh (fun W=>made_awS W);have HR:=zh (fun pa pc W hp=>run_awS pa pc W hp);unfold awTS at HM
 go_enter Tryz.func10,Tryz.ntmps10
 go_wp2_with (first
  | (go_at_call 8;refine Calls.mono (zu HM _) ?_;rintro e w1 ⟨pa,pc,rfl,hR,hX⟩;have R1:=zh (fun ob=>V.RepP.ext hR (Ext.alloc w1 ob));have X1:=zh hX;clear hR hX)
  | (go_at_call 9;refine Calls.mono (zu HR _ _ _ (zu R1 _)) ?_;rintro e w3 ⟨hX,b,ec,x0,x1,x2,x3,x4,x5,x6,x7,rfl,d0,d3⟩;have X3:=zh (((zu X1).trans (Ext.alloc _ _)).trans hX);have hb3:b < w3.heap.size:=World.block_lt_of_cell? w3 _ d0;have hbn:b≠w3.heap.size:=Nat.ne_of_lt hb3;have d0:=fun ob=>(Ext.alloc w3 ob).cell d0;have d3:=fun ob=>(Ext.alloc w3 ob).cell d3;clear hX))
 go_ret;exact⟨rfl,(zu X3).trans (Ext.alloc _ _)⟩
end
section
variable {w w' w2:World}
theorem kmaskS (a:Int) (k:Nat) (hk:0 < k):∃ n:Nat,(bits .and .i64 a 65535).tmod (k:Int)=n∧n < k:=by
 have h:∃ n:Nat,bits .and .i64 a 65535=n∧n≤65535:=by
  refine⟨(BitVec.ofInt 64 a &&& BitVec.ofInt 64 65535).toNat,?_,?_⟩
  ·have hl:(BitVec.ofInt 64 a &&& BitVec.ofInt 64 65535).toNat≤65535:=by
    rw[BitVec.toNat_and];exact Nat.and_le_right
   show IntKind.wrap .i64 ((BitVec.ofInt 64 a &&& BitVec.ofInt 64 65535).toNat:Int)=_;generalize (BitVec.ofInt 64 a &&& BitVec.ofInt 64 65535).toNat=n at hl;rw[IntKind.wrap_i64];omega
  ·rw[BitVec.toNat_and];exact Nat.and_le_right
 obtain⟨n,h1,h2⟩:=h;refine⟨n % k,?_,Nat.mod_lt _ hk⟩;rw[h1];exact(Int.ofNat_tmod n k).symm ▸ rfl
end
section
variable {w w' w2:World}
theorem mask3 (a:Int):∃ n:Nat,bits .and .i64 a 3=n∧n < 4:=by
 refine⟨(BitVec.ofInt 64 a &&& BitVec.ofInt 64 3).toNat,?_,?_⟩
 ·have hl:(BitVec.ofInt 64 a &&& BitVec.ofInt 64 3).toNat≤3:=by
   rw[BitVec.toNat_and];exact Nat.and_le_right
  show IntKind.wrap .i64 ((BitVec.ofInt 64 a &&& BitVec.ofInt 64 3).toNat:Int)=_;generalize (BitVec.ofInt 64 a &&& BitVec.ofInt 64 3).toNat=n at hl;rw[IntKind.wrap_i64];omega
 ·have h:(BitVec.ofInt 64 a &&& BitVec.ofInt 64 3).toNat≤3:=by rw[BitVec.toNat_and];exact Nat.and_le_right
  omega
abbrev bA (l:List UInt8):ByteArray:=⟨l.toArray⟩
def enA:List UInt8:=[32,123,32]
def enB:List UInt8:=[125,32,107,32,61,32,107,32,43,32,49,32,59,32,125,32,114,101,116,117,114,110,32,107,32,59,32,125]
theorem enterDg (v:Value) (w:World):(callFunc 7 #[v]).run Tryz.prog w = .ok (.enter 7 #[v]) w:=by kernel_rfl
theorem fr102 (T:Array Value) (h:T.size=102):∃ u:Nat→Value,T = #[u 0,u 1,u 2,u 3,u 4,u 5,u 6,u 7,u 8,u 9,u 10,u 11,u 12,u 13,u 14,u 15,u 16,u 17,u 18,u 19,u 20,u 21,u 22,u 23,u 24,u 25,u 26,u 27,u 28,u 29,u 30,u 31,u 32,u 33,u 34,u 35,u 36,u 37,u 38,u 39,u 40,u 41,u 42,u 43,u 44,u 45,u 46,u 47,u 48,u 49,u 50,u 51,u 52,u 53,u 54,u 55,u 56,u 57,u 58,u 59,u 60,u 61,u 62,u 63,u 64,u 65,u 66,u 67,u 68,u 69,u 70,u 71,u 72,u 73,u 74,u 75,u 76,u 77,u 78,u 79,u 80,u 81,u 82,u 83,u 84,u 85,u 86,u 87,u 88,u 89,u 90,u 91,u 92,u 93,u 94,u 95,u 96,u 97,u 98,u 99,u 100,u 101]:=by
 refine⟨fun i=>T.getD i undef,?_⟩;have e:T=((List.range T.size).map (fun i=>T.getD i undef)).toArray:=by
  apply Array.ext
  ·simp
  ·intro i h1 h2
   simp[h1]
 rw[h] at e;exact e
theorem tx_loops (h:Nat) (t u:ByteArray):bA qD++t++bA qr++u++bA enA++bA (howU h)++bA enB=bA (txU h (L t) (L u)):=by
 apply L_inj;simp only[L_append,bA,L_mk];unfold txU qE;rw[show ([32,123,32]:List UInt8)=enA from rfl,show ([125,32,107,32,61,32,107,32,43,32,49,32,59,32,125,32,114,101,116,117,114,110,32,107,32,59,32,125]:List UInt8)=enB from rfl];simp only[List.append_assoc]
theorem zm {h X n a:Nat} {cs:List (Option Int)} {code:List V.KI} {hs:List Int} (P:PrU h X n a cs code hs) (kk tt:Nat) (hg:∃ (K:Nat) (s1:V.SMc),V.sGo (V.fnL nmM (cs.map gcP) code) K (V.sL 0 [V.nilP,V.nilP] 999 [])=some (s1,-1)∧V.flV s1.fr = [V.it (kk:Int)]∧s1.ev.length=tt) (pa:Option Addr) (pc:Nat) (w:World) (hp:V.RepP w (V.In w) pa (V.fnL nmM (cs.map gcP) code)):Calls Tryz.prog 9 #[V.kpV pa 1 pc 0,.int .i64 999] w fun en w'=>Ext w w'∧∃ ea ec x2 x3 x4 x5 x6 x7,en = .returned (.tuple #[V.trV ea tt ec (.int .i64 1) (.int .i64 (kk:Int)) (.complex .f64 x2 x3) (.string x4) (.slice x5 x6 x7) 0,.int .i64 0]):=by
 obtain⟨K,s1,hg,hf,hl⟩:=hg;obtain⟨_,_,_,hh,_,_,p7,p8,p9⟩:=P;have hB:V.KfB (V.fnL nmM (cs.map gcP) code):=by
  intro f hf;obtain rfl:=List.mem_singleton.1 hf;exact⟨by simp;omega,by show code.length≤1000000;omega,p9⟩
 have h:=V.svmrun_m (V.fnL nmM (cs.map gcP) code) pa pc 0 K 1000 _ s1 (-1) (V.it (kk:Int)) (V.it (kk:Int)) (rfl:(V.fnL nmM (cs.map gcP) code)[0]? = some _) 2 rfl rfl (by omega) 999 hp (fun f hf=>(hB f hf).2.1) (by show 1≤1000000;omega) hB (by omega) (chk_loops hh) hg (fun _=>⟨hf,(cp_it _).symm⟩) (fun h=>absurd rfl h);refine Calls.mono h ?_;rintro en w' ⟨hX,ea,ec,a,cap,rfl,_⟩;rw[hl];exact⟨hX,ea,ec,_,_,_,_,_,_,rfl⟩
theorem zK {h X n a:Nat} {cs:List (Option Int)} {code:List V.KI} {hs:List Int} (hh:h < 4) (hn:n≤1000) (ha:a≤1000) (P:PrU h X n a cs code hs) (hform:(∀ p ∈ fsU h n a,gX p.bd∧p.ps.length≤1000∧nsz p.bd≤5000)∧(fsU h n a).length≤16) (t u:ByteArray) (hT:Dgs t n) (hts:t.size≤20) (hU:Dgs u a) (hus:u.size≤20) (w:World):Calls Tryz.prog 8 #[.string (bA qD++t++bA qr++u++bA enA++bA (howU h)++bA enB)] w fun e' w' => ∃ pa pc,e' = .returned (.tuple #[V.kpV pa 1 pc 0,.bool true])∧V.RepP w' (V.In w') pa (V.fnL nmM (cs.map gcP) code)∧Ext w w':=by
 obtain⟨p1,p2,p3,p4,p5,p6,p7,p8,p9⟩:=P;obtain⟨hr,hb⟩:=rd_loops h n a hh (L t) (L u) hT.all hT.ne hT.val (by omega) (by rw[L_len];exact hts) hU.all hU.ne hU.val (by omega) (by rw[L_len];exact hus);have hl:=(txU_len h hh (L t) (L u)).2;rw[L_len,L_len] at hl;rw[tx_loops];have hB:V.KfB (V.fnL nmM (cs.map gcP) code):=by
  intro f hf;obtain rfl:=List.mem_singleton.1 hf;exact⟨by simp;omega,by show code.length≤1000000;omega,p9⟩
 have h:=made_of (w:=w) (bA (txU h (L t) (L u))) 70 60 1000 (fsU h n a) _ (V.fnL nmM (cs.map gcP) code) (by rw[qN];omega) (by rw[begP_L];exact hb) (by omega) (by rw[rdP_L,hr]) (by rw[rdP_L,hr]) (too_loops h n a) hform (by omega) p1 p2 (fun z q hz=>by
  match z,hz with
  | 0,hz =>
   injection hz with hz;subst hz;exact⟨⟨lf_gcP cs,rfl,by show (0:Int)≤2;omega,by show (2:Int)≤64;omega,p6,by show code.length≤1000;omega⟩,hs,p5,p4⟩
  | z+1,hz=>cases hz) hB
 rw[main_loops] at h;exact h
def hitK (h:Nat) (n a:Int):Int:=if h=3 then n else if h=1 then n - 1 else a - 1
def hitT (h:Nat) (n a:Int):Int:=if h=0∨h=2 then a - 1 else n
theorem zv (h:Nat) (hh:h < 4) (a0 a1 a2:Int) (n a kk tt:Nat) (w:World) (h0:(bits .and .i64 a0 65535).tmod 100=(n:Int)) (h1:(bits .and .i64 a1 65535).tmod 100=(a:Int)) (h2:bits .and .i64 a2 3=(h:Int)) (fns:List V.KF)
  (hM:∀ (t u:ByteArray) (hT:Dgs t n) (hts:t.size≤20) (hU:Dgs u a) (hus:u.size≤20) (W:World),Calls Tryz.prog 8 #[.string (bA qD++t++bA qr++u++bA enA++bA (howU h)++bA enB)] W fun e' w' => ∃ pa pc,e' = .returned (.tuple #[V.kpV pa 1 pc 0,.bool true])∧V.RepP w' (V.In w') pa fns∧Ext W w')
  (hR:∀ (pa:Option Addr) (pc:Nat) (W:World),V.RepP W (V.In W) pa fns→Calls Tryz.prog 9 #[V.kpV pa 1 pc 0,.int .i64 999] W fun en w'=>Ext W w'∧∃ ea ec x2 x3 x4 x5 x6 x7,en = .returned (.tuple #[V.trV ea tt ec (.int .i64 1) (.int .i64 (kk:Int)) (.complex .f64 x2 x3) (.string x4) (.slice x5 x6 x7) 0,.int .i64 0]))
  (hn:n < 100) (ha:a < 100)
  (hc:(¬ (1≤(a:Int))∧kk=n∧tt=n)∨(1≤(a:Int)∧¬ ((a:Int)≤(n:Int))∧kk=n∧tt=n)∨(1≤(a:Int)∧(a:Int)≤(n:Int)∧(kk:Int)=hitK h n a∧(tt:Int)=hitT h n a)):Calls Tryz.prog 3 #[.int .i64 a0,.int .i64 a1,.int .i64 a2] w fun e w'=>e = .returned (.bool true)∧Ext w w':=by
 have HD:=zh (fun W=>qy n W (by omega));have HU:=zh (fun W=>qy a W (by omega));have HM:=zh hM;have HR:=zh hR;have HA:=zh (fun W=>awake9_w W);have HC:=zh hc;clear hM hR hc;obtain⟨U,hU0⟩:∃ U,U=bA (howU h):=⟨_,rfl⟩;rw[← hU0] at HM;rcases (show h=0∨h=1∨h=2∨h=3 by omega) with rfl | rfl | rfl | rfl
 all_goals
  go_enter Tryz.func3,Tryz.ntmps3
  go_wp2_with fail
  refine V.wp_midS (fun a' w'=>a'.defers = []∧a'.tmps.size=102∧a'.tmps[0]? = some (.int .i64 (n:Int))∧a'.tmps[1]? = some (.int .i64 (a:Int))∧a'.tmps[2]? = some (.int .i64 a2)∧(∃ t u,Dgs t n∧t.size≤20∧Dgs u a∧u.size≤20∧a'.tmps[7]? = some (.string (bA qD++t++bA qr++u++bA enA++U++bA enB)))∧Ext w w') ?_ ?_
  ·go_region_law (first
    | (refine step_call_one rfl 7 (.tmp 21) 2 rfl _ (by simp[Act.eval,Act.put]) (enterDg _ _) (Calls.mono (zu HD _) ?_);rintro e5 w5 ⟨t,rfl,hT,hts,hw⟩;obtain rfl:=hw.symm;have DT:=zh hT;clear hT;have z1:¬ (9223372036854775807 < 48+t.size):=(by omega);have z2:¬ (9223372036854775807 < 48+t.size+23):=(by omega);try (have z3:¬ (9223372036854775807 < 48+t.size+23+u.size):=by omega);try (have z4:¬ (9223372036854775807 < 48+t.size+23+u.size+3):=by omega);try (have z5:¬ (9223372036854775807 < 48+t.size+23+u.size+3+8):=by omega);try (have z6:¬ (9223372036854775807 < 48+t.size+23+u.size+3+8+28):=by omega);try (have z7:¬ (9223372036854775807 < 48+t.size+23+u.size+3+11):=by omega);try (have z8:¬ (9223372036854775807 < 48+t.size+23+u.size+3+11+28):=by omega);try (have z9:¬ (9223372036854775807 < 48+t.size+23+u.size+3+28):=by omega);refine⟨_,rfl,?_⟩)
    | (refine step_call_one rfl 7 (.tmp 25) 2 rfl _ (by simp[Act.eval,Act.put]) (enterDg _ _) (Calls.mono (zu HU _) ?_);rintro e5 w5 ⟨u,rfl,hU,hus,hw⟩;obtain rfl:=hw.symm;have DU:=zh hU;clear hU;try (have z3:¬ (9223372036854775807 < 48+t.size+23+u.size):=by omega);try (have z4:¬ (9223372036854775807 < 48+t.size+23+u.size+3):=by omega);try (have z5:¬ (9223372036854775807 < 48+t.size+23+u.size+3+8):=by omega);try (have z6:¬ (9223372036854775807 < 48+t.size+23+u.size+3+8+28):=by omega);try (have z7:¬ (9223372036854775807 < 48+t.size+23+u.size+3+11):=by omega);try (have z8:¬ (9223372036854775807 < 48+t.size+23+u.size+3+11+28):=by omega);try (have z9:¬ (9223372036854775807 < 48+t.size+23+u.size+3+28):=by omega);refine⟨_,rfl,?_⟩))
   all_goals
    refine V.nrm_outW ?_;refine⟨?_,?_,?_,?_,?_,⟨t,u,zu DT,hts,zu DU,hus,?_⟩,?_⟩
    ·rfl
    ·simp[Act.put]
    ·simp[Act.put]
    ·simp[Act.put]
    ·simp[Act.put]
    ·simp[Act.put,bA,qD,qr,enA,enB,hU0,howU]
    ·first | exact Ext.drew (Ext.alloc _ _) | exact(Ext.drew (Ext.refl _)).trans (Ext.alloc _ _)
  ·rintro⟨TT,dd⟩ W ⟨hd,hT,t0,t1,t2,⟨t,u,hDt,hts,hDu,hus,t7⟩,hXW⟩
   obtain rfl:dd = []:=hd;obtain⟨u',rfl⟩:=fr102 TT hT;have e0:u' 0 = .int .i64 (n:Int):=Option.some.inj t0;have e1:u' 1 = .int .i64 (a:Int):=Option.some.inj t1;have e2:u' 2 = .int .i64 a2:=Option.some.inj t2;have e7:u' 7 = .string _:=Option.some.inj t7;rw[e0,e1,e2,e7];clear e0 e1 e2 e7 t0 t1 t2 t7 hT;have HMt:=zh (fun W=>(zu HM) t u hDt hts hDu hus W);generalize bA qD++t++bA qr++u++bA enA++U++bA enB=S at *;have HX:=zh hXW;clear HM hXW hDt hDu hts hus HD HU;rcases zu HC with⟨c1,rfl,rfl⟩ | ⟨c1,c2,rfl,rfl⟩ | ⟨c1,c2,c3,c4⟩
   all_goals
    try simp only[hitK,hitT] at c3 c4
    try simp at c3 c4
    clear HC
    go_wp2_with (first
     | (go_at_call 8;refine Calls.mono (zu HMt _) ?_;rintro e w1 ⟨pa,pc,rfl,hR,hX⟩;have R1:=zh (fun ob=>V.RepP.ext hR (Ext.alloc w1 ob));have X1:=zh ((zu HX).trans hX);clear hR hX)
     | (go_at_call 9;refine Calls.mono (zu HR _ _ _ (zu R1 _)) ?_;rintro e w3 ⟨hX,ea,ec,x2,x3,x4,x5,x6,x7,rfl⟩;have X3:=zh (((zu X1).trans (Ext.alloc _ _)).trans hX);clear hX)
     | (go_at_call 10;refine Calls.mono (zu HA _) ?_;rintro e w5 ⟨rfl,hX⟩;have X5:=zh (((zu X3).trans (Ext.alloc _ _)).trans hX);clear hX))
    go_ret;exact⟨rfl,zu X5⟩
theorem loops_k0 (a0 a1 a2:Int) (n a:Nat) (w:World) (h0:(bits .and .i64 a0 65535).tmod 100=(n:Int)) (h1:(bits .and .i64 a1 65535).tmod 100=(a:Int)) (h2:bits .and .i64 a2 3=0) (hn:n < 100) (ha:a < 100):Calls Tryz.prog 3 #[.int .i64 a0,.int .i64 a1,.int .i64 a2] w fun e w'=>e = .returned (.bool true)∧Ext w w':=by
 obtain⟨cs,code,hs,P,hc⟩:=prog_loops0 n a (by omega) (by omega);have L:=P.2.2.1;have hM:=fun (t u:ByteArray) (hT:Dgs t n) (hts:t.size≤20) (hU:Dgs u a) (hus:u.size≤20) (W:World)=>zK (by omega) (by omega) (by omega) P (zJ 0 (by omega) _ _) t u hT hts hU hus W;by_cases c1:1≤a
 ·by_cases c2:a≤n
  ·exact zv 0 (by omega) a0 a1 a2 n a (a - 1) (a - 1) w h0 h1 h2 _ hM (zm P (a - 1) (a - 1) (V.loop_brk (b:=nmM) L hc n a rfl rfl (by omega) c1 c2 999 (by omega) (by omega))) hn ha (Or.inr (Or.inr ⟨by omega,by omega,(by simp[hitK];try omega),(by simp[hitT];try omega)⟩))
  ·exact zv 0 (by omega) a0 a1 a2 n a n n w h0 h1 h2 _ hM (zm P n n (V.loop_all (b:=nmM) L n rfl (by omega) 999 (by omega) (by omega) (fun j _ _=>Or.inl (by omega)))) hn ha (Or.inr (Or.inl ⟨by omega,by omega,rfl,rfl⟩))
 ·exact zv 0 (by omega) a0 a1 a2 n a n n w h0 h1 h2 _ hM (zm P n n (V.loop_all (b:=nmM) L n rfl (by omega) 999 (by omega) (by omega) (fun j _ _=>Or.inl (by omega)))) hn ha (Or.inl ⟨by omega,rfl,rfl⟩)
theorem loops_k1 (a0 a1 a2:Int) (n a:Nat) (w:World) (h0:(bits .and .i64 a0 65535).tmod 100=(n:Int)) (h1:(bits .and .i64 a1 65535).tmod 100=(a:Int)) (h2:bits .and .i64 a2 3=1) (hn:n < 100) (ha:a < 100):Calls Tryz.prog 3 #[.int .i64 a0,.int .i64 a1,.int .i64 a2] w fun e w'=>e = .returned (.bool true)∧Ext w w':=by
 obtain⟨cs,code,hs,P,hc⟩:=prog_loops1 n a (by omega) (by omega);have L:=P.2.2.1;have hM:=fun (t u:ByteArray) (hT:Dgs t n) (hts:t.size≤20) (hU:Dgs u a) (hus:u.size≤20) (W:World)=>zK (by omega) (by omega) (by omega) P (zJ 1 (by omega) _ _) t u hT hts hU hus W;by_cases c1:1≤a
 ·by_cases c2:a≤n
  ·exact zv 1 (by omega) a0 a1 a2 n a (n - 1) n w h0 h1 h2 _ hM (zm P (n - 1) n (V.loop_cnt (b:=nmM) L hc n a rfl rfl (by omega) c1 c2 999 (by omega) (by omega))) hn ha (Or.inr (Or.inr ⟨by omega,by omega,(by simp[hitK];try omega),(by simp[hitT];try omega)⟩))
  ·exact zv 1 (by omega) a0 a1 a2 n a n n w h0 h1 h2 _ hM (zm P n n (V.loop_all (b:=nmM) L n rfl (by omega) 999 (by omega) (by omega) (fun j _ _=>Or.inl (by omega)))) hn ha (Or.inr (Or.inl ⟨by omega,by omega,rfl,rfl⟩))
 ·exact zv 1 (by omega) a0 a1 a2 n a n n w h0 h1 h2 _ hM (zm P n n (V.loop_all (b:=nmM) L n rfl (by omega) 999 (by omega) (by omega) (fun j _ _=>Or.inl (by omega)))) hn ha (Or.inl ⟨by omega,rfl,rfl⟩)
theorem loops_k2 (a0 a1 a2:Int) (n a:Nat) (w:World) (h0:(bits .and .i64 a0 65535).tmod 100=(n:Int)) (h1:(bits .and .i64 a1 65535).tmod 100=(a:Int)) (h2:bits .and .i64 a2 3=2) (hn:n < 100) (ha:a < 100):Calls Tryz.prog 3 #[.int .i64 a0,.int .i64 a1,.int .i64 a2] w fun e w'=>e = .returned (.bool true)∧Ext w w':=by
 obtain⟨cs,code,hs,P,hc,hd⟩:=prog_loops2 n a (by omega) (by omega);have L:=P.2.2.1;have hM:=fun (t u:ByteArray) (hT:Dgs t n) (hts:t.size≤20) (hU:Dgs u a) (hus:u.size≤20) (W:World)=>zK (by omega) (by omega) (by omega) P (zJ 2 (by omega) _ _) t u hT hts hU hus W;by_cases c1:1≤a
 ·by_cases c2:a≤n
  ·exact zv 2 (by omega) a0 a1 a2 n a (a - 1) (a - 1) w h0 h1 h2 _ hM (zm P (a - 1) (a - 1) (V.loop_ret (b:=nmM) L hc hd n a rfl rfl (by omega) c1 c2 999 (by omega) (by omega))) hn ha (Or.inr (Or.inr ⟨by omega,by omega,(by simp[hitK];try omega),(by simp[hitT];try omega)⟩))
  ·exact zv 2 (by omega) a0 a1 a2 n a n n w h0 h1 h2 _ hM (zm P n n (V.loop_all (b:=nmM) L n rfl (by omega) 999 (by omega) (by omega) (fun j _ _=>Or.inl (by omega)))) hn ha (Or.inr (Or.inl ⟨by omega,by omega,rfl,rfl⟩))
 ·exact zv 2 (by omega) a0 a1 a2 n a n n w h0 h1 h2 _ hM (zm P n n (V.loop_all (b:=nmM) L n rfl (by omega) 999 (by omega) (by omega) (fun j _ _=>Or.inl (by omega)))) hn ha (Or.inl ⟨by omega,rfl,rfl⟩)
theorem loops_k3 (a0 a1 a2:Int) (n a:Nat) (w:World) (h0:(bits .and .i64 a0 65535).tmod 100=(n:Int)) (h1:(bits .and .i64 a1 65535).tmod 100=(a:Int)) (h2:bits .and .i64 a2 3=3) (hn:n < 100) (ha:a < 100):Calls Tryz.prog 3 #[.int .i64 a0,.int .i64 a1,.int .i64 a2] w fun e w'=>e = .returned (.bool true)∧Ext w w':=by
 obtain⟨cs,code,hs,P⟩:=prog_loops3 n a (by omega) (by omega);have L:=P.2.2.1;have hM:=fun (t u:ByteArray) (hT:Dgs t n) (hts:t.size≤20) (hU:Dgs u a) (hus:u.size≤20) (W:World)=>zK (by omega) (by omega) (by omega) P (zJ 3 (by omega) _ _) t u hT hts hU hus W;by_cases c1:1≤a
 ·by_cases c2:a≤n
  ·exact zv 3 (by omega) a0 a1 a2 n a n n w h0 h1 h2 _ hM (zm P n n (V.loop_all (b:=nmM) L n rfl (by omega) 999 (by omega) (by omega) (fun j _ _=>Or.inr rfl))) hn ha (Or.inr (Or.inr ⟨by omega,by omega,by simp[hitK],by simp[hitT]⟩))
  ·exact zv 3 (by omega) a0 a1 a2 n a n n w h0 h1 h2 _ hM (zm P n n (V.loop_all (b:=nmM) L n rfl (by omega) 999 (by omega) (by omega) (fun j _ _=>Or.inl (by omega)))) hn ha (Or.inr (Or.inl ⟨by omega,by omega,rfl,rfl⟩))
 ·exact zv 3 (by omega) a0 a1 a2 n a n n w h0 h1 h2 _ hM (zm P n n (V.loop_all (b:=nmM) L n rfl (by omega) 999 (by omega) (by omega) (fun j _ _=>Or.inl (by omega)))) hn ha (Or.inl ⟨by omega,rfl,rfl⟩)
theorem loops_walk (a0 a1 a2:Int) (w:World):Calls Tryz.prog 3 #[.int .i64 a0,.int .i64 a1,.int .i64 a2] w fun e w'=>e = .returned (.bool true)∧Ext w w':=by
 obtain⟨n,h0,hn⟩:=kmaskS a0 100 (by decide);obtain⟨a,h1,ha⟩:=kmaskS a1 100 (by decide);obtain⟨h,h2,hh⟩:=mask3 a2;rcases (show h=0∨h=1∨h=2∨h=3 by omega) with rfl | rfl | rfl | rfl
 ·exact loops_k0 a0 a1 a2 n a w h0 h1 h2 hn ha
 ·exact loops_k1 a0 a1 a2 n a w h0 h1 h2 hn ha
 ·exact loops_k2 a0 a1 a2 n a w h0 h1 h2 hn ha
 ·exact loops_k3 a0 a1 a2 n a w h0 h1 h2 hn ha
end
end Go.Proofs.YtdnclahaejlehaaGreat
