/- Made: a program's stack code by the document,where all goes well. · What the document fixes of layer 9. · The walk of the law SvmCalls: a function that calls itself so often tells a tick for each call,however deep it is. -/
import Derived.Test.YtdnclahaejlehaaGreatZk47
import Derived.Test.YtdnclahaejlehaaGreatZk21
import Derived.Test.YtdnclahaejlehaaGreatZk48
import Derived.Test.YtdnclahaejlehaaGreatZk42
set_option linter.unusedSimpArgs false
set_option linter.unusedVariables false
set_option maxRecDepth 10000
set_option maxHeartbeats 1000000
namespace Go.Proofs.YtdnclahaejlehaaGreat
open Go.RowKit
section
variable {w w' w2:World}
theorem made_of (s:ByteArray) (F f K:Nat) (fs:List PFn) (sc:List PSc) (fns:List V.KF) (hmax:s.size≤9223372036854775807) (hF:(begP s).ts.length < F) (hF2:F≤90000) (hrd:(rdP s F).1=fs) (hre:(rdP s F).2.e=0) (htoo:tooP fs=false) (hfm:(∀ p ∈ fs,gX p.bd∧p.ps.length≤1000∧nsz p.bd≤5000)∧fs.length≤16) (hK:K≤1000000) (hd:docP fs=(sc,0)) (hr:rFns f fs sc 0 []=some fns) (hv:∀ (z:Nat) (q:V.KF),fns[z]? = some q→V.HdOk q∧∃ hs:List Int,hs.length=q.code.length∧V.kHgt fns (z:Int) K=some (hs,0)) (hB:V.KfB fns) :
  Calls Tryz.prog 8 #[.string s] w fun e' w' => ∃ pa pc,e' = .returned (.tuple #[V.kpV pa fns.length pc (rMain fs 0 0),.bool true])∧V.RepP w' (V.In w') pa fns∧Ext w w':=by
 have HT:=zh (fun W=>rprog_any s F W hmax hF hF2);have HP:=zh (fun (W:World) (fa:Option Addr) (fc:Nat) (h1:RepFL W (fun b=>b < W.heap.size) fs fa) (h2:fs.length≤fc)=>rprogram_ok (w:=W) f K fs sc fns fa fc hK h1 h2 hfm.2 (fun p hp=>(hfm.1 p hp).2.1) (fun p hp=>(hfm.1 p hp).1) (fun p hp=>(hfm.1 p hp).2.2) hd hr hv hB);have HRD:=zh hrd;have HRE:=zh hre;have HTO:=zh htoo;generalize rMain fs 0 0=M at *;clear hmax hF hF2 hrd hre htoo hd hr hv hB hfm
 go_enter Tryz.func8,Tryz.ntmps8
 go_wp2_with (first
  | (go_at_call 14;refine Calls.mono (zu HT _) ?_;rintro e w1 ⟨hx,⟨h9,_⟩ | ⟨_,h9,_⟩ | ⟨_,_,fa,fc,rfl,hfc,hrf⟩⟩;(exact absurd (zu HRE) h9);(rw[zu HRD,zu HTO] at h9;cases h9);rw[zu HRD] at hfc hrf;rw[zu HRD];have r1:=hx.row (Go.heap_alloc_new w _);have X1:=zh hx;have HRF:=zh hrf;have hfc1:=hfc;clear hx hrf hfc)
  | (go_at_call 15;go_loud (refine Calls.mono (zu HP _ fa fc (RepFL.to (fun b hb=>⟨Nat.lt_of_lt_of_le hb (Ext.alloc _ _).size,(Ext.alloc _ _).block b hb⟩) (zu HRF)) hfc1) ?_;rintro e w3 ⟨pa,pc,rfl,hR,hX⟩;have r3:=((Ext.alloc w1 _).trans hX).row r1;have X3:=zh ((Ext.alloc w _).trans (((zu X1).trans (Ext.alloc _ _)).trans hX));have R3:=zh hR;have hlt3:w.heap.size < w3.heap.size:=(Array.getElem?_eq_some_iff.1 r3).1;have hne3:w.heap.size≠w3.heap.size:=Nat.ne_of_lt hlt3;have k0:=fun ob=>zr ((Ext.alloc w3 ob).row r3) 0 rfl;have k1:=fun ob=>zr ((Ext.alloc w3 ob).row r3) 1 rfl;have kf:=fun ob=>rowF ((Ext.alloc w3 ob).row r3);have s1:=fun ob v=>zr ((Ext.alloc _ ob).row (row_set r3 0 v)) 1 rfl;have sf:=fun ob v=>rowF ((Ext.alloc _ ob).row (row_set r3 0 v));have R3r:=zh r3;clear r3;clear hR hX r1)))
 obtain⟨W9,hW9⟩:∃ W9,W9=(((w3.setCell ⟨w.heap.size,0,none⟩ (Value.slice pa fns.length pc)).setCell ⟨w.heap.size,1,none⟩ (Value.int IntKind.i64 M)).alloc (Obj.cells #[Value.slice pa fns.length pc,Value.int IntKind.i64 M] 26)):=⟨_,rfl⟩;rw[← hW9];have b9:W9.heap[w.heap.size]? = some (.cells #[.slice pa fns.length pc,.int .i64 M] 26 (0,0)):=by
  rw[hW9];exact(Ext.alloc _ _).row (row_set (row_set (zu R3r) 0 _) 1 _)
 have k9:∀ q,q < w3.heap.size→q≠w.heap.size→W9.heap[q]? = w3.heap[q]?:=fun q hq hn=>by
  rw[hW9,(Ext.alloc _ _).block q (by simpa [World.setCell] using hq),Below.heap_setCell _ _ _ _ (by exact hn),Below.heap_setCell _ _ _ _ (by exact hn)]
 have X9:Ext w W9:=by
  rw[hW9];exact(((zu X3).set (Nat.le_refl _) _).set (Nat.le_refl _) _).trans (Ext.alloc _ _)
 have s9:w3.heap.size≤W9.heap.size:=by
  rw[hW9];simp[World.setCell]
 have u0:=zr b9 0 rfl;have u1:=zr b9 1 rfl;clear hW9 k0 k1 kf s1 sf;exact bodyPost_ret (v:=.tuple #[V.kpV pa fns.length pc M,.bool true]) (by simp[results,Tryz.results8,go_sem,u0,u1]) rfl ⟨pa,pc,rfl,V.RepP.to (fun q hq=>⟨Nat.lt_of_lt_of_le hq.2 s9,k9 q hq.2 (by have h1:=hq.1;have h2:=(zu X1).size;simp at h1 h2;omega)⟩) (zu R3),X9⟩
end
section
variable {w w' w2:World}
def awTS:List UInt8:=[102,110,32,109,97,105,110,40,41,32,123,32,112,114,105,110,116,32,49,59,32,125]
def fsAS:List PFn:=[⟨nmM,[],⟨10,0,zE,0,[⟨8,0,zE,0,[nN 1]⟩]⟩⟩]
def fnAS:List V.KF:=[⟨nmM,0,0,[V.it 1,V.nilP],[⟨1,0,0⟩,⟨11,0,0⟩,⟨1,1,0⟩,⟨10,0,0⟩]⟩]
theorem aw_rdS:rdL awTS 60=(fsAS,⟨[],0,0,0⟩):=by kernel_rfl
theorem aw_begS:(begL awTS).ts.length < 60:=by
 have h:(begL awTS).ts.length=9:=by kernel_rfl
 omega
theorem aw_docS:docP fsAS=([⟨0,[],[]⟩],0):=by kernel_rfl
theorem aw_fnsS:rFns 60 fsAS [⟨0,[],[]⟩] 0 []=some fnAS:=by kernel_rfl
theorem aw_hgtS:V.kHgt fnAS 0 1000=some ([0,1,0,1],0):=by kernel_rfl
theorem aw_chkS:V.kChk fnAS 0 1000=some 0:=by kernel_rfl
theorem aw_kfbS:V.KfB fnAS:=by
 intro f hf;rcases List.mem_cons.1 hf with rfl | hf
 ·exact⟨by show 2≤1000000;omega,by show 4≤1000000;omega,bnd_code (l:=[⟨1,0,0⟩,⟨11,0,0⟩,⟨1,1,0⟩,⟨10,0,0⟩]) (by decide)⟩
 ·cases hf
theorem aw_hvS (z:Nat) (q:V.KF) (h:fnAS[z]? = some q):V.HdOk q∧∃ hs:List Int,hs.length=q.code.length∧V.kHgt fnAS (z:Int) 1000=some (hs,0):=by
 match z,h with
 | 0,h =>
  injection h with h;subst h;exact⟨⟨lf_gcP [some 1,none],rfl,by show (0:Int)≤0;omega,by show (0:Int)≤64;omega,by show 0 < 4;omega,by show 4≤1000;omega⟩,_,rfl,aw_hgtS⟩
 | z+1,h=>cases h
theorem aw_formS:(∀ p ∈ fsAS,gX p.bd∧p.ps.length≤1000∧nsz p.bd≤5000)∧fsAS.length≤16:=by
 refine⟨fun p hp => ?_,by simp[fsAS]⟩;rcases List.mem_cons.1 hp with rfl | hp
 ·refine⟨⟨20,?_⟩,by simp,by simp[nsz,nszL,vN,nN]⟩
  simp[gXf,vN,nN,sz_lit]
 ·cases hp
theorem made_awS (w:World):Calls Tryz.prog 8 #[.string ⟨awTS.toArray⟩] w fun e' w' => ∃ pa pc,e' = .returned (.tuple #[V.kpV pa 1 pc 0,.bool true])∧V.RepP w' (V.In w') pa fnAS∧Ext w w':=by
 have h:=made_of (w:=w) ⟨awTS.toArray⟩ 60 60 1000 fsAS [⟨0,[],[]⟩] fnAS (by decide) (by rw[begP_L];exact aw_begS) (by omega) (by rw[rdP_L,aw_rdS]) (by rw[rdP_L,aw_rdS]) (by kernel_rfl) aw_formS (by omega) aw_docS aw_fnsS aw_hvS aw_kfbS;rw[show rMain fsAS 0 0=0 by kernel_rfl] at h;exact h
theorem cp_it (x:Int):V.cp (V.it x)=V.it x:=by
 unfold V.cp;have h:V.tk (V.it x)=V.it x:=by unfold V.tk;rw[V.okv_it,if_pos rfl]
 rw[h];rfl
theorem run_awS (pa:Option Addr) (pc:Nat) (w:World) (hp:V.RepP w (V.In w) pa fnAS):Calls Tryz.prog 9 #[V.kpV pa 1 pc 0,.int .i64 9] w fun en w'=>Ext w w'∧∃ b ec x0 x1 x2 x3 x4 x5 x6 x7,en = .returned (.tuple #[V.trV (some ⟨b,0,none⟩) 1 ec (.int .i64 x0) (.int .i64 x1) (.complex .f64 x2 x3) (.string x4) (.slice x5 x6 x7) 0,.int .i64 0])∧w'.cell? ⟨b,0,none⟩=some (.int .i64 2)∧w'.cell? ⟨b,3,none⟩=some (.int .i64 1):=by
 have hg:V.sGo fnAS 10 ⟨[⟨0,0,List.replicate 0 V.nilP⟩],min 9 100000,[]⟩=some (⟨[⟨0,0,[V.nilP]⟩],8,[⟨2,0,V.cp (V.it 1)⟩]⟩,-1):=by kernel_rfl
 have h:=V.svmrun_m fnAS pa pc 0 10 1000 _ _ (-1) (V.cp V.nilP) V.nilP (rfl:fnAS[0]? = some _) 0 rfl rfl (by omega) 9 hp (fun f hf=>(aw_kfbS f hf).2.1) (by show 1≤1000000;omega) aw_kfbS (by omega) aw_chkS hg (fun _=>⟨rfl,rfl⟩) (fun h=>absurd rfl h);refine Calls.mono h ?_;rintro en w' ⟨hX,ea,ec,a,cap,rfl,evs,hev,hc⟩;obtain⟨a',cap',rest,rfl,hr⟩:=hev;rcases hc with hc | ⟨b,cur,rfl,hb,hc⟩
 ·simp[V.evC] at hc
 ·rw[cp_it] at hc
  exact⟨hX,b,ec,_,_,_,_,_,_,_,_,rfl,hc 0 _ rfl,hc 3 _ rfl⟩
theorem awake9_w (w:World):Calls Tryz.prog 10 #[] w fun e w'=>e = .returned (.bool true)∧Ext w w':=by
 have HM:=zh (fun W=>made_awS W);have HR:=zh (fun pa pc W hp=>run_awS pa pc W hp);unfold awTS at HM
 go_enter Tryz.func10,Tryz.ntmps10
 go_wp2_with (first
  | (go_at_call 8;refine Calls.mono (zu HM _) ?_;rintro e w1 ⟨pa,pc,rfl,hR,hX⟩;have R1:=zh (fun ob=>V.RepP.ext hR (Ext.alloc w1 ob));have X1:=zh hX;clear hR hX)
  | (go_at_call 9;refine Calls.mono (zu HR _ _ _ (zu R1 _)) ?_;rintro e w3 ⟨hX,b,ec,x0,x1,x2,x3,x4,x5,x6,x7,rfl,d0,d3⟩;have X3:=zh (((zu X1).trans (Ext.alloc _ _)).trans hX);have hb3:b < w3.heap.size:=World.block_lt_of_cell? w3 _ d0;have hbn:b≠w3.heap.size:=Nat.ne_of_lt hb3;have d0:=fun ob=>(Ext.alloc w3 ob).cell d0;have d3:=fun ob=>(Ext.alloc w3 ob).cell d3;clear hX))
 go_ret;exact⟨rfl,(zu X3).trans (Ext.alloc _ _)⟩
end
section
variable {w w' w2:World}
theorem kmaskS (a:Int) (k:Nat) (hk:0 < k):∃ n:Nat,(bits .and .i64 a 65535).tmod (k:Int)=n∧n < k:=by
 have h:∃ n:Nat,bits .and .i64 a 65535=n∧n≤65535:=by
  refine⟨(BitVec.ofInt 64 a &&& BitVec.ofInt 64 65535).toNat,?_,?_⟩
  ·have hl:(BitVec.ofInt 64 a &&& BitVec.ofInt 64 65535).toNat≤65535:=by
    rw[BitVec.toNat_and];exact Nat.and_le_right
   show IntKind.wrap .i64 ((BitVec.ofInt 64 a &&& BitVec.ofInt 64 65535).toNat:Int)=_;generalize (BitVec.ofInt 64 a &&& BitVec.ofInt 64 65535).toNat=n at hl;rw[IntKind.wrap_i64];omega
  ·rw[BitVec.toNat_and];exact Nat.and_le_right
 obtain⟨n,h1,h2⟩:=h;refine⟨n % k,?_,Nat.mod_lt _ hk⟩;rw[h1];exact(Int.ofNat_tmod n k).symm ▸ rfl
theorem tx_three (l m:List UInt8) (t:ByteArray):((⟨l.toArray⟩:ByteArray)++t)++⟨m.toArray⟩=⟨(l++(L t++m)).toArray⟩:=by
 apply L_inj;rw[L_append,L_append,L_mk,L_mk,L_mk,List.append_assoc];exact(L_mk _).symm
theorem made_callsT (n:Nat) (hn:n≤2000) (t:ByteArray) (hT:Dgs t n) (hs:t.size≤20) (w:World):Calls Tryz.prog 8 #[.string (((⟨preC.toArray⟩:ByteArray)++t)++⟨postC.toArray⟩)] w fun e' w' => ∃ pa pc,e' = .returned (.tuple #[V.kpV pa 2 pc 1,.bool true])∧V.RepP w' (V.In w') pa (V.fnC nmF nmM (n:Int))∧Ext w w':=by
 have hl:(L t).length≤20:=by rw[L_len];exact hs
 have hb:=beg_calls n (L t) hT.all hT.ne hT.val (by omega) hl;have hr:=rd_calls n (L t) hT.all hT.ne hT.val (by omega) hl;rw[tx_three];have e1:(preC++(L t++postC)).length≤200:=by
  rw[List.length_append,List.length_append];have h1:preC.length≤100:=by decide
  have h2:postC.length≤10:=by decide
  omega
 have ht:∀ (x:Tk) (y:Nat),(tkC1++x :: tkC2 y).length < 60:=fun x y=>by simp[tkC1,tkC2]
 have h:=made_of (w:=w) ⟨(preC++(L t++postC)).toArray⟩ 60 60 1000 (fsC n) scC (V.fnC nmF nmM (n:Int)) (by rw[size_mk];omega) (by rw[begP_L,hb];exact ht _ _) (by omega) (by rw[rdP_L,hr]) (by rw[rdP_L,hr]) (too_calls _) (form_calls _) (by omega) (doc_calls _) (fns_calls n hn) (hv_calls _ _ _) (kfb_calls _ _ _);rw[main_calls] at h;exact h
theorem run_callsY (n m:Nat) (hn:n≤2000) (hm:n+1≤m) (hm2:m≤3000) (pa:Option Addr) (pc:Nat) (w:World) (hp:V.RepP w (V.In w) pa (V.fnC nmF nmM (n:Int))):Calls Tryz.prog 9 #[V.kpV pa 2 pc 1,.int .i64 (m:Int)] w fun en w'=>Ext w w'∧∃ ea ec x2 x3 x4 x5 x6 x7,en = .returned (.tuple #[V.trV ea (n+1) ec (.int .i64 1) (.int .i64 (n:Int)) (.complex .f64 x2 x3) (.string x4) (.slice x5 x6 x7) 0,.int .i64 0]):=by
 have hmin:min (m:Int) 100000=(m:Int):=by omega
 obtain⟨K,s1,hK,hg,hf,hl⟩:=V.calls_ok (a:=nmF) (b:=nmM) hn (m:Int) (by omega) (by omega);have h:=V.svmrun_m (V.fnC nmF nmM (n:Int)) pa pc 1 K 1000 _ s1 (-1) (V.it (n:Int)) (V.it (n:Int)) (rfl:(V.fnC nmF nmM (n:Int))[1]? = some _) 0 rfl rfl (by omega) (m:Int) hp (fun f hf=>(kfb_calls _ _ _ f hf).2.1) (by show 2≤1000000;omega) (kfb_calls _ _ _) (by omega) (chk_calls _ _ _) (by rw[hmin];exact hg) (fun _=>⟨hf,(cp_it _).symm⟩) (fun h=>absurd rfl h);refine Calls.mono h ?_;rintro en w' ⟨hX,ea,ec,a,cap,rfl,_⟩;rw[hl];exact⟨hX,ea,ec,_,_,_,_,_,_,rfl⟩
theorem run_callsN (n m:Nat) (hn:n≤2000) (hm:m < n+1) (pa:Option Addr) (pc:Nat) (w:World) (hp:V.RepP w (V.In w) pa (V.fnC nmF nmM (n:Int))):Calls Tryz.prog 9 #[V.kpV pa 2 pc 1,.int .i64 (m:Int)] w fun en w'=>Ext w w'∧∃ ea ec x1 x2 x3 x4 x5 x6 x7,en = .returned (.tuple #[V.trV ea m ec (.int .i64 0) (.int .i64 x1) (.complex .f64 x2 x3) (.string x4) (.slice x5 x6 x7) 6,.int .i64 0]):=by
 have hmin:min (m:Int) 100000=(m:Int):=by omega
 obtain⟨K,s1,hK,hg,hl⟩:=V.calls_no (a:=nmF) (b:=nmM) hn m hm;have h:=V.svmrun_m (V.fnC nmF nmM (n:Int)) pa pc 1 K 1000 _ s1 6 V.nilP V.nilP (rfl:(V.fnC nmF nmM (n:Int))[1]? = some _) 0 rfl rfl (by omega) (m:Int) hp (fun f hf=>(kfb_calls _ _ _ f hf).2.1) (by show 2≤1000000;omega) (kfb_calls _ _ _) (by omega) (chk_calls _ _ _) (by rw[hmin];exact hg) (fun h=>absurd h (by decide)) (fun _=>rfl);refine Calls.mono h ?_;rintro en w' ⟨hX,ea,ec,a,cap,rfl,_⟩;rw[hl];exact⟨hX,ea,ec,_,_,_,_,_,_,_,rfl⟩
theorem calls_wY (a0 a1:Int) (n m:Nat) (w:World) (h0:(bits .and .i64 a0 65535).tmod 2000=(n:Int)) (h1:(bits .and .i64 a1 65535).tmod 3000=(m:Int)) (hn:n < 2000) (hm2:m < 3000) (hm:n+1≤m):Calls Tryz.prog 6 #[.int .i64 a0,.int .i64 a1] w fun e w'=>e = .returned (.bool true)∧Ext w w':=by
 have HD:=zh (fun W=>digits_any n W (by omega));have HM:=zh (fun (t:ByteArray) (hT:Dgs t n) (hs:t.size≤20) (W:World)=>made_callsT n (by omega) t hT hs W);have HR:=zh (fun (pa:Option Addr) (pc:Nat) (W:World) hp=>run_callsY n m (by omega) hm (by omega) pa pc W hp);have HA:=zh (fun W=>awake9_w W);unfold preC postC at HM;have hlt:¬ ((m:Int) < (n:Int)+1):=by omega
 go_enter Tryz.func6,Tryz.ntmps6
 go_wp2_with (first
  | (go_at_call 7;refine Calls.mono (zu HD _) ?_;rintro e w1 ⟨t,rfl,hT,hts,hw⟩;obtain rfl:=hw.symm;have DT:=zh hT;clear hT)
  | (go_at_call 8;refine Calls.mono (zu HM _ (zu DT) hts _) ?_;rintro e w1 ⟨pa,pc,rfl,hR,hX⟩;have R1:=zh (fun ob=>V.RepP.ext hR (Ext.alloc w1 ob));have X1:=zh hX;clear hR hX)
  | (go_at_call 9;refine Calls.mono (zu HR _ _ _ (zu R1 _)) ?_;rintro e w3 ⟨hX,ea,ec,x2,x3,x4,x5,x6,x7,rfl⟩;have X3:=zh (((zu X1).trans (Ext.alloc _ _)).trans hX);clear hX)
  | (go_at_call 10;refine Calls.mono (zu HA _) ?_;rintro e w5 ⟨rfl,hX⟩;have X5:=zh (((zu X3).trans (Ext.alloc _ _)).trans hX);clear hX))
 go_ret;exact⟨rfl,zu X5⟩
theorem calls_wN (a0 a1:Int) (n m:Nat) (w:World) (h0:(bits .and .i64 a0 65535).tmod 2000=(n:Int)) (h1:(bits .and .i64 a1 65535).tmod 3000=(m:Int)) (hn:n < 2000) (hm2:m < 3000) (hm:m < n+1):Calls Tryz.prog 6 #[.int .i64 a0,.int .i64 a1] w fun e w'=>e = .returned (.bool true)∧Ext w w':=by
 have HD:=zh (fun W=>digits_any n W (by omega));have HM:=zh (fun (t:ByteArray) (hT:Dgs t n) (hs:t.size≤20) (W:World)=>made_callsT n (by omega) t hT hs W);have HR:=zh (fun (pa:Option Addr) (pc:Nat) (W:World) hp=>run_callsN n m (by omega) hm pa pc W hp);have HA:=zh (fun W=>awake9_w W);unfold preC postC at HM;have hlt:(m:Int) < (n:Int)+1:=by omega
 go_enter Tryz.func6,Tryz.ntmps6
 go_wp2_with (first
  | (go_at_call 7;refine Calls.mono (zu HD _) ?_;rintro e w1 ⟨t,rfl,hT,hts,hw⟩;obtain rfl:=hw.symm;have DT:=zh hT;clear hT)
  | (go_at_call 8;refine Calls.mono (zu HM _ (zu DT) hts _) ?_;rintro e w1 ⟨pa,pc,rfl,hR,hX⟩;have R1:=zh (fun ob=>V.RepP.ext hR (Ext.alloc w1 ob));have X1:=zh hX;clear hR hX)
  | (go_at_call 9;refine Calls.mono (zu HR _ _ _ (zu R1 _)) ?_;rintro e w3 ⟨hX,ea,ec,x1,x2,x3,x4,x5,x6,x7,rfl⟩;have X3:=zh (((zu X1).trans (Ext.alloc _ _)).trans hX);clear hX)
  | (go_at_call 10;refine Calls.mono (zu HA _) ?_;rintro e w5 ⟨rfl,hX⟩;have X5:=zh (((zu X3).trans (Ext.alloc _ _)).trans hX);clear hX))
 go_ret;exact⟨rfl,zu X5⟩
theorem calls_walk (a0 a1:Int) (w:World):Calls Tryz.prog 6 #[.int .i64 a0,.int .i64 a1] w fun e w'=>e = .returned (.bool true)∧Ext w w':=by
 obtain⟨n,h0,hn⟩:=kmaskS a0 2000 (by decide);obtain⟨m,h1,hm⟩:=kmaskS a1 3000 (by decide);by_cases h:n+1≤m
 ·exact calls_wY a0 a1 n m w h0 h1 hn hm h
 ·exact calls_wN a0 a1 n m w h0 h1 hn hm (by omega)
end
end Go.Proofs.YtdnclahaejlehaaGreat
