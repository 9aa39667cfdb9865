/- What the names of all functions mean. -/
import Derived.Test.YtjnpehohialmbaaGreatZs25
set_option linter.unusedSimpArgs false
set_option linter.unusedVariables false
set_option maxRecDepth 10000
set_option maxHeartbeats 4000000
namespace Go.Proofs.YtjnpehohialmbaaGreat
open Go.RowKit
section
open Go.RowKit Go.Maps
def ChkIs (R:List PSc × Int) (w:World) (e:Ending) (w':World):Prop :=
 Ext w w'∧∃ a cap,e = .returned (.tuple #[.slice a R.1.length cap,.int .i64 R.2])∧R.1.length≤cap∧RepSc w' (Fr w.heap.size w'.heap.size) R.1 a
end
section
open Go.RowKit Go.Maps
theorem rcheck_w (fs:List PFn) (fa:Option Addr) (fcap:Nat) (w:World) (hr:RepFL w (fun k=>k < w.heap.size) fs fa) (hcap:fs.length≤fcap) (hl:fs.length≤100000) (hps:∀ p ∈ fs,p.ps.length≤1000) (hg:∀ p ∈ fs,gX p.bd) (hz:∀ p ∈ fs,nsz p.bd≤5000) :
  Calls Tryz.prog 15 #[.slice fa fs.length fcap] w (ChkIs (docP fs) w):=by
 have HR:=zh hr;have HPS:=zh hps;have HG:=zh hg;have HZ:=zh hz;have HBI:=zh (fun (s:ByteArray) (W:World)=>rbuiltin_w s W);clear hr hps hg hz;generalize hFN:fs.length=fn at *;have hlw:fn < 4611686018427387904:=by omega
 go_enter Tryz.func15,Tryz.ntmps15
 go_wp2_with fail
 go_loopw [4] (fun t wr => ∃ (i:Nat),t = .int .i64 i∧i≤fn∧Hd (Ext w wr)∧Hd (∀ (j:Nat) (p:PFn),fs[j]? = some p→j < i→(biP p.nm).isSome=false∧(fs.take j).any (sameN p.nm)=false)) (fun t _=>fn - (intOf t).toNat)
 case atStart=>exact⟨0,rfl,Nat.zero_le _,Ext.refl _,fun j p _ h=>absurd h (Nat.not_lt_zero _)⟩
 case round =>
  obtain⟨i,rfl,hi,hX,hN⟩:=hrel;by_cases hlt:i < fn
  ·obtain⟨p,hp⟩:∃ p,fs[i]? = some p:=⟨_,List.getElem?_eq_getElem (by omega)⟩
   obtain⟨b,off,pa,pc,qa,qc,rfl,hbl,hc,hpc,_,_,_⟩:=(zu HR).at i p hp;have HE0:=zh (hc 0 _ rfl);have e0:=(zu hX).cell (hc 0 _ rfl);simp only[Nat.add_zero] at e0;clear hc hbl;have HP:=zh hp;clear hp;have hbv:∃ b1 b2,biV p.nm = .tuple #[.int .i64 b1,.int .i64 b2,.bool (biP p.nm).isSome]:=by
    unfold biV;cases biP p.nm with
    | none=>exact⟨_,_,rfl⟩
    | some q=>exact⟨_,_,rfl⟩
   obtain⟨b1,b2,hbv⟩:=hbv;have HB2:Hd (∀ W,Calls Tryz.prog 37 #[.string p.nm] W fun e w'=>e = .returned (.tuple #[.int .i64 b1,.int .i64 b2,.bool (biP p.nm).isSome])∧w' = W):=fun W=>by have:=zu HBI p.nm W;rw[hbv] at this;exact this
   clear hbv;generalize hBS:(biP p.nm).isSome=bs at *
   go_wp2_with (go_at_call 37;refine Calls.mono (zu HB2 _) ?_;rintro e w4 ⟨rfl,hw⟩;obtain rfl:=hw.symm)
   clear HB2 e0;obtain⟨nm,hnm⟩:∃ nm,nm=p.nm:=⟨_,rfl⟩
   go_loopw [7,8] (fun t7 t8 wr => ∃ (k:Nat) (bb:Bool),t8 = .int .i64 k∧k≤i∧t7 = .bool bb∧Hd (bb=(bs || (fs.take k).any (sameN nm)))∧Hd (Ext w wr)) (fun _ t _=>i - (intOf t).toNat)
   case atStart=>exact⟨0,bs,rfl,Nat.zero_le _,rfl,by rw[Hd,List.take_zero];simp,hX⟩
   case round =>
    obtain⟨k,bb,rfl,hk,rfl,hbb,hX2⟩:=hrel;have e0:=(zu hX2).cell (zu HE0);simp only[Nat.add_zero] at e0;rw[← hnm] at e0;by_cases hki:k < i
    ·obtain⟨q,hq⟩:∃ q,fs[k]? = some q:=⟨_,List.getElem?_eq_getElem (by omega)⟩
     obtain⟨b',off',pa',pc',qa',qc',hb',hbl,hc,hpc,_,_,_⟩:=(zu HR).at k q hq;simp only[Option.some.injEq,Addr.mk.injEq,and_true] at hb';obtain⟨rfl,rfl⟩:=hb';have f0:=(zu hX2).cell (hc 0 _ rfl);simp only[Nat.add_zero] at f0;clear hc hbl;have hany:(fs.take (k+1)).any (sameN nm)=((fs.take k).any (sameN nm) || (q.nm.toList == nm.toList)):=by
      rw[List.take_succ_eq_append_getElem (by omega),(List.getElem?_eq_some_iff.1 hq).2,List.any_append];simp only[List.any_cons,List.any_nil,Bool.or_false,sameN];rw[ByteArray.toList_eq,ByteArray.toList_eq]
     have HNX:Hd (∀ x:Bool,(q.nm.toList == nm.toList)=x→(bb || x)=(bs || (fs.take (k+1)).any (sameN nm))):=by
      intro x hx;rw[hany,hx,zu hbb,Bool.or_assoc]
     have HW:Nonempty (RGw wr):=⟨⟨wr,Ext.refl _⟩⟩;have k0:∀ y:RGw wr,y.w.cell? ⟨b,off+i * 7,none⟩=some (.string nm):=fun y=>y.h.cell e0;have k1:∀ y:RGw wr,y.w.cell? ⟨b,off+k * 7,none⟩=some (.string q.nm):=fun y=>y.h.cell f0;clear hany hq;generalize q.nm=qnm at *;cases bb
     ·cases hx:(qnm.toList == nm.toList)
      ·have HB3:=zh (zu HNX false hx)
       go_wp2_with fail
       refine wp_region_rx (W:=wr) (by kernel_rfl) (by kernel_rfl) (Ext.refl _) ?_
       repeat (go_big_quiet_step (fail))
       refine wpQuiet_nil ?_;rintro w4 ⟨n4,hn4⟩;have X4:=zh ((zu hX2).trans (hn4 ▸ n4.h));clear hn4 n4
       go_wp2_with fail
       go_roundw
       case rel=>exact⟨k+1,false,by go_num,by omega,by first | rw[hx] | rw[← hnm,hx],HB3,X4⟩
       case measure=>simp[intOf];omega
      ·have HB3:=zh (zu HNX true hx)
       go_wp2_with fail
       refine wp_region_rx (W:=wr) (by kernel_rfl) (by kernel_rfl) (Ext.refl _) ?_
       repeat (go_big_quiet_step (fail))
       refine wpQuiet_nil ?_;rintro w4 ⟨n4,hn4⟩;have X4:=zh ((zu hX2).trans (hn4 ▸ n4.h));clear hn4 n4
       go_wp2_with fail
       go_roundw
       case rel=>exact⟨k+1,true,by go_num,by omega,by first | rw[hx] | rw[← hnm,hx],HB3,X4⟩
       case measure=>simp[intOf];omega
     ·have HB3:Hd (true=(bs || (fs.take (k+1)).any (sameN nm))):=by have:=zu HNX _ rfl;rw[Bool.true_or] at this;exact this
      go_wp2_with fail
      refine wp_region_rx (W:=wr) (by kernel_rfl) (by kernel_rfl) (Ext.refl _) ?_
      repeat (go_big_quiet_step (fail))
      refine wpQuiet_nil ?_;rintro w4 ⟨n4,hn4⟩;have X4:=zh ((zu hX2).trans (hn4 ▸ n4.h));clear hn4 n4
      go_wp2_with fail
      go_roundw
      case rel=>exact⟨k+1,true,by go_num,by omega,rfl,HB3,X4⟩
      case measure=>simp[intOf];omega
    ·have hke:k=i:=by omega
     cases bb
     ·have HN2:Hd (∀ (j:Nat) (p:PFn),fs[j]? = some p→j < i+1→(biP p.nm).isSome=false∧(fs.take j).any (sameN p.nm)=false):=by
       intro j p' hp' hj;by_cases hji:j < i
       ·exact zu hN j p' hp' hji
       ·obtain rfl:j=i:=by omega
        rw[zu HP] at hp';injection hp' with hp';subst hp';have h9:=zu hbb;rw[hke,hnm,eq_comm,Bool.or_eq_false_iff] at h9;exact⟨by rw[hBS];exact h9.1,h9.2⟩
      clear hke
      go_wp2_with fail
      go_roundw
      case rel=>exact⟨i+1,by go_num,by omega,hX2,HN2⟩
      case measure=>simp[intOf];omega
     ·have HD:Hd (docP fs=([],11)):=by
       refine docP_bad (zu HP) ?_;have h9:=zu hbb;rw[hke,hnm,eq_comm,Bool.or_eq_true] at h9;rw[hBS];exact h9
      clear hke
      go_wp2_with fail
      rw[zu HD];exact bodyPost_ret (v:=.tuple #[.slice none 0 0,.int .i64 11]) (by simp[results,Tryz.results15]) rfl ⟨zu hX2,none,0,rfl,Nat.le_refl _,Or.inl rfl⟩
  ·have HD:Hd (docP fs=if (dChk fs fs []).2≠0 then ([],(dChk fs fs []).2) else if mainD fs≠0 then ([],mainD fs) else ((dChk fs fs []).1,0)):=docP_ok (fun j p hp=>zu hN j p hp (by have:=(List.getElem?_eq_some_iff.1 hp).1;omega))
   have HN:Hd (∀ (j:Nat) (p:PFn),fs[j]? = some p→(fs.take j).any (sameN p.nm)=false):=fun j p hp=>(zu hN j p hp (by have:=(List.getElem?_eq_some_iff.1 hp).1;omega)).2;clear hN HBI;have HD:Hd (docP fs=docE fs):=zu HD;obtain⟨SO0,hi0,hz0,hz1,hz2⟩:=info_parts infoSo;have HSO:=zh hi0;have ZSO0:=zh hz0;have ZSO1:=zh hz1;have ZSO2:=zh hz2;clear hi0 hz0 hz1 hz2;obtain⟨SS0,hi0,hz0,hz1,hz2⟩:=info_parts infoSe;have HSS:=zh hi0;have ZSS0:=zh hz0;have ZSS1:=zh hz1;have ZSS2:=zh hz2;clear hi0 hz0 hz1 hz2
   go_wp2_with fail
   clear hi hlt
   go_loopw [9,10,11] (fun t9 t10 t11 wr => ∃ (i:Nat) (acc:List PSc) (ao:Option Addr) (cap:Nat) (mn:Int),t11 = .int .i64 i∧i≤fn∧t10 = .int .i64 mn∧t9 = .slice ao acc.length cap∧acc.length≤i∧Hd (QI w wr acc ao cap)∧Hd (dChk fs fs []=dChk fs (fs.drop i) acc)∧Hd (MainI fs i mn)) (fun _ _ t _=>fn - (intOf t).toNat)
   case atStart=>exact⟨0,[],none,0,-1,rfl,Nat.zero_le _,rfl,rfl,Nat.le_refl _,QI.nil _ _ (zu hX),by rw[Hd,List.drop_zero],Or.inl ⟨rfl,by rw[List.take_zero];intro q hq;cases hq⟩⟩
   case round =>
    clear hX;obtain⟨i,acc,ao,cap,mn,rfl,hi,rfl,rfl,hal,hQ,hDC,hM⟩:=hrel;obtain⟨V,rfl⟩:∃ V,V=wr:=⟨_,rfl⟩;by_cases hlt:i < fn
    ·obtain⟨p,hp⟩:∃ p,fs[i]? = some p:=⟨_,List.getElem?_eq_getElem (by omega)⟩
     obtain⟨b,off,pa,pc,qa,qc,rfl,hbl,hc,hpc,hS,hqc,hL⟩:=(zu HR).at i p hp;have hmem:=List.mem_of_getElem? hp;have hgX:=zu HG p hmem;have hnz:=zu HZ p hmem;have hpl:=zu HPS p hmem;have X0:=zh (zu hQ).ext;have hVs:w.heap.size≤V.heap.size:=(zu X0).size;have HCW:=zh hc;have HS0:=zh hS;have HP:=zh hp;have HFL:Hd (RepFL V (fun k=>k < V.heap.size) fs (some ⟨b,off,none⟩)):=(zu HR).to (fun k hk=>⟨by show k < V.heap.size;exact Nat.lt_of_lt_of_le hk hVs,(zu X0).block k hk⟩);have HRN:Hd (RepN V (fun k=>k < V.heap.size) p.bd (nodV p.bd.k p.bd.o p.bd.s p.bd.n (.slice qa p.bd.l.length qc))):=by
      rw[Hd];have hL2:RepNL V (fun k=>k < V.heap.size) p.bd.l qa:=RepNL.to (fun k hk=>⟨Nat.lt_of_lt_of_le hk hVs,(zu X0).block k hk⟩) _ _ hL;generalize p.bd=bd at *;obtain⟨k,o,s,n,l⟩:=bd;rw[RepN];exact⟨qa,qc,rfl,hqc,hL2⟩
     have HC0:Hd (CS V.heap.size (V.alloc (ckO (.slice (some ⟨b,off,none⟩) fn fcap) 0 (.slice none 0 0) (.slice none 0 0) (.slice none 0 0) 0 0)) (.slice (some ⟨b,off,none⟩) fn fcap) fs ⟨[],0,0,[],[],0⟩ none 0 0 none 0 0 none 0 0):=by
      rw[Hd];have:=CS.new (zu HFL) (fcap:=fcap) (by omega);rw[hFN] at this;exact this
     have e1:=(zu X0).cell (hc 1 _ rfl);have HWK:=zh (walk_all (g:=V.heap.size) (fv:=.slice (some ⟨b,off,none⟩) fn fcap) (fs:=fs) (by omega) (fun q hq=>by have:=zu HPS q hq;omega) (nsz p.bd) p.bd (Nat.le_refl _) hgX);clear hc hS hL hmem hgX hp hqc hpc;have hbV:b < V.heap.size:=Nat.lt_of_lt_of_le hbl hVs;generalize hPN:p.ps.length=pn at *
     go_wp2_with fail
     refine gen_world (F:=fun W=>Code.wp _ _ _ _ W) ?_;intro W1 hW1;have C1:Hd (CS V.heap.size W1 (.slice (some ⟨b,off,none⟩) fn fcap) fs ⟨[],0,0,[],[],0⟩ none 0 0 none 0 0 none 0 0):=by rw[Hd,hW1];exact zu HC0
     have X1:Hd (Ext V W1):=by rw[Hd,hW1];exact Ext.alloc _ _
     clear HC0 hW1 e1
     go_loopw [13] (fun t wr => ∃ (k:Nat) (see:List (ByteArray × Int)),t = .int .i64 k∧k≤pn∧see.length=k∧Hd (CF V.heap.size W1 wr)∧Hd (CK V.heap.size wr (.slice (some ⟨b,off,none⟩) fn fcap) fs ⟨see,0,0,[],[],0⟩)∧Hd (prmD p.ps 0 []=prmD (p.ps.drop k) k see)) (fun t _=>pn - (intOf t).toNat)
     case atStart=>exact⟨0,[],rfl,Nat.zero_le _,rfl,CF.refl _ _,⟨_,_,_,_,_,_,_,_,_,zu C1⟩,by rw[Hd,List.drop_zero]⟩
     case round =>
      obtain⟨k,see,rfl,hk,hsl,hF,hK,hPD⟩:=hrel;have X2:Hd (Ext w wr):=(zu X0).trans ((zu hF).ext V (Nat.le_refl _) (zu X1));have e1:=(zu X2).cell (zu HCW 1 _ rfl);have hgw:V.heap.size < wr.heap.size:=(zu hK).lt;rw[hPN] at e1;by_cases hkn:k < pn
      ·obtain⟨s,hs⟩:∃ s,p.ps[k]? = some s:=⟨_,List.getElem?_eq_getElem (by omega)⟩
       obtain⟨sb,soff,rfl,hsb,es⟩:=(zu HS0).at k s hs;have es:=(zu X2).cell es;have HFI:=zh (find_c (zu hK) (by show see.length≤100000;omega) s);obtain⟨sa2,ns2,sc2,ca2,nc2,cc2,ea2,ne2,ec2,hC⟩:=zu hK;cases hf:fnd see s with
       | some v =>
        have hv:fndV see s=v:=by unfold fndV;rw[hf]
        have hpos:0≤v:=fnd_pos hC.pos hf;have hd0:decide (0≤v)=true:=by simp;omega
        have HFI2:Hd (Calls Tryz.prog 38 #[.pointer (some ⟨V.heap.size,0,none⟩),.string s] wr fun e w'=>e = .returned (.int .i64 v)∧Ext wr w'):=by
         have:=zu HFI;rw[show fndV (DK.see ⟨see,0,0,[],[],0⟩) s=v from hv] at this;exact this
        have HAN:Hd (docP fs=([],11)):=by
         have h9:prmD p.ps 0 []=none:=(zu hPD).trans (prmD_bad hs (by rw[hf];rfl));refine(zu HD).trans (docE_bad (zu hDC) (zu HP) ?_ (by decide));unfold dFn;rw[h9]
        clear hC hf hv hs HFI
        go_wp2_with (go_at_call 38;refine Calls.mono (zu HFI2) ?_;rintro e w3 ⟨rfl,hw3⟩;have X3:=zh hw3;clear hw3)
        rw[zu HAN];exact bodyPost_ret (v:=.tuple #[.slice none 0 0,.int .i64 11]) (by simp[results,Tryz.results15]) rfl ⟨(zu X2).trans (zu X3),none,0,rfl,Nat.le_refl _,Or.inl rfl⟩
       | none =>
        have hv:fndV see s = -1:=by unfold fndV;rw[hf]
        have HFI2:Hd (Calls Tryz.prog 38 #[.pointer (some ⟨V.heap.size,0,none⟩),.string s] wr fun e w'=>e = .returned (.int .i64 (-1))∧Ext wr w'):=by
         have:=zu HFI;rw[show fndV (DK.see ⟨see,0,0,[],[],0⟩) s = -1 from hv] at this;exact this
        have HPD2:Hd (prmD p.ps 0 []=prmD (p.ps.drop (k+1)) (k+1) (see++[(s,(k:Int))])):=(zu hPD).trans (prmD_on hs (by rw[hf];rfl));have hne2:see.length=ne2:=hC.hne;have HRW:=zh hC.row;have HC:=zh hC;clear hC hf hv hs HFI
        go_wp2_with (go_at_call 38;refine Calls.mono (zu HFI2) ?_;rintro e w3 ⟨rfl,hw3⟩;have X3:=zh hw3;have HRW3:=zh (hw3.row (zu HRW));obtain⟨c0,c1,c2,c3,c4,c5,c6,zf⟩:=ck_c (zu HRW3);have e1:=hw3.cell e1;have es:=hw3.cell es;have S3:=zh ((zu HC).ext hw3);clear hw3)
        have S4:Hd (∀ ob,CS V.heap.size (w3.drew.alloc ob) (.slice (some ⟨b,off,none⟩) fn fcap) fs ⟨see,0,0,[],[],0⟩ sa2 ns2 sc2 ca2 nc2 cc2 ea2 ne2 ec2):=fun ob=>((zu S3).ext (Ext.drew (Ext.refl _))).ext (Ext.alloc _ ob);have hg3:V.heap.size < w3.heap.size:=(zu S3).lt;have hk0:(0:Int)≤(k:Int):=by omega
        refine wp_nrm ?_
        first | skip;go_region_law (first
         | (refine step_append_where rfl (.tmp 84) (.tmp 95) 116 rfl (V.heap.size+1) 121 SS0 (.agg #[.string zE,.int .i64 0]) 2 24 Tryz.underlying116 (zu HSS) (zu ZSS0) (zu ZSS1) (zu ZSS2) rfl (by decide) ea2 ne2 ec2 (see.flatMap seC) (by simp[Act.eval,Act.put]) (zu S4 _).ose ⟨w3.heap.size,0,none⟩ 1 1 [.string s,.int .i64 (k:Int)] (by simp[Act.eval,Act.put]) (by decide) rfl (cells_new w3.drew _ _) (one_see _ _) (by unfold maxLen;omega) (by omega) (by simp;omega) ?_;intro g2 cap6 w6 ho6 hg6 hw6;have hrow6:=row_grow (zu S4 _).ose hg6 (zu S4 _).row;obtain⟨z0,z1,z2,z3,z4,z5,z6,zzf⟩:=ck_c hrow6;have HP6:=zh (CS.pushSee (zu S4 _) hk0 ho6 hg6);clear ho6 hg6 hw6 hrow6)) | fail
        all_goals
         refine nrm_inC ?_;have S5:Hd (CK V.heap.size _ (.slice (some ⟨b,off,none⟩) fn fcap) fs ⟨see++[(s,(k:Int))],0,0,[],[],0⟩):=⟨_,_,_,_,_,_,_,_,_,(zu HP6).1⟩;have F5:=zh (((zu hF).trans (CF.of hgw ((zu X3).trans ((Ext.drew (Ext.refl _)).trans (Ext.alloc _ _))))).trans (zu HP6).2);clear HP6 z0 z1 z2 z3 z4 z5 z6 zzf c0 c1 c2 c3 c4 c5 c6 zf
         go_wp2_with fail
         go_roundw
         case rel=>exact⟨k+1,see++[(s,(k:Int))],by go_num,by omega,by simp[hsl],F5,S5,HPD2⟩
         case measure=>simp[intOf];omega
      ·have hke:k=pn:=by omega
       have HPE:Hd (prmD p.ps 0 []=some see):=by
        have h9:=zu hPD;rw[hke,← hPN,List.drop_length,prmD] at h9;exact h9
       clear hke hPD;obtain⟨sa1,ns1,sc1,ca1,nc1,cc1,ea1,ne1,ec1,hC⟩:=zu hK;obtain⟨c0,c1,c2,c3,c4,c5,c6,zf⟩:=ck_c hC.row;have HC2:=zh (hC.setLc (pn:Int));have F2:=zh ((zu hF).set 1 (.int .i64 (pn:Int)));have X3:Hd (Ext w (wr.setCell ⟨V.heap.size,1,none⟩ (.int .i64 (pn:Int)))):=(zu X0).trans ((zu F2).ext V (Nat.le_refl _) (zu X1));have f2:=(zu X3).cell (zu HCW 2 _ rfl);have f3:=(zu X3).cell (zu HCW 3 _ rfl);have f4:=(zu X3).cell (zu HCW 4 _ rfl);have f5:=(zu X3).cell (zu HCW 5 _ rfl);have f6:=(zu X3).cell (zu HCW 6 _ rfl);have e2:=(zu X2).cell (zu HCW 2 _ rfl);have e3:=(zu X2).cell (zu HCW 3 _ rfl);have e4:=(zu X2).cell (zu HCW 4 _ rfl);have e5:=(zu X2).cell (zu HCW 5 _ rfl);have e6:=(zu X2).cell (zu HCW 6 _ rfl)
       have hbg:(b == V.heap.size)=false:=by simp;omega
       have hgb:(V.heap.size == b)=false:=by simp;omega
       obtain⟨d2,hd2⟩:∃ d2,d2=dW fs (nsz p.bd) p.bd ⟨see,0,(pn:Int),[],[],0⟩:=⟨_,rfl⟩;have HDF:Hd (dFn fs p=if d2.e≠0 then (⟨0,[],[]⟩,d2.e) else if 64 < d2.lc then (⟨0,[],[]⟩,65) else (⟨d2.lc,d2.sl,d2.cl⟩,0)):=by
        rw[Hd,hd2,← hPN];unfold dFn;rw[zu HPE]
       have HLE:=dW_le fs (nsz p.bd) p.bd ⟨see,0,(pn:Int),[],[],0⟩;rw[← hd2] at HLE;have HCW2:Hd (Calls Tryz.prog 39 #[.pointer (some ⟨V.heap.size,0,none⟩),nodV p.bd.k p.bd.o p.bd.s p.bd.n (.slice qa p.bd.l.length qc)] (wr.setCell ⟨V.heap.size,1,none⟩ (.int .i64 (pn:Int))) (CAns V.heap.size (wr.setCell ⟨V.heap.size,1,none⟩ (.int .i64 (pn:Int))) (.slice (some ⟨b,off,none⟩) fn fcap) fs d2)):=by
        rw[Hd,hd2];refine zu HWK _ _ _ ⟨_,_,_,_,_,_,_,_,_,zu HC2⟩ ((zu F2).rep ((CF.of (g:=V.heap.size) (w:=W1) (zu C1).lt (Ext.refl W1)).rep ?_)) ?_ ?_ ?_ ?_ ?_ ?_ ?_
        ·exact RepN.to (fun k hk=>⟨hk,(zu X1).block k hk⟩) _ _ (zu HRN)
        ·show see.length+nsz p.bd≤100000;omega
        ·show 0+nsz p.bd≤100000;omega
        ·show 0+nsz p.bd≤100000;omega
        ·exact Int.le_refl _
        ·show (0:Int)+nsz p.bd≤100000;omega
        ·show (0:Int)≤(pn:Int);omega
        ·show (pn:Int)+nsz p.bd≤100000;omega
       have hlc1:d2.lc≤(pn:Int)+nsz p.bd:=HLE.lc;have hlc0:(pn:Int)≤d2.lc:=HLE.lc0;have hsl2:d2.sl.length≤0+nsz p.bd:=HLE.sl;have hcl2:d2.cl.length≤0+nsz p.bd:=HLE.cl;clear hC hd2 HLE HWK hF hK HPE C1 HRN;generalize p.bd.k=bk at *;generalize p.bd.o=bo at *;generalize p.bd.s=bs at *;generalize p.bd.n=bn at *;generalize p.bd.l.length=bl at *;by_cases he2:d2.e=0
       case neg =>
        have hea:(d2.e == 0)=false:=by simpa using he2
        have heb:(d2.e != 0)=true:=by simp[he2]
        have HAN:Hd (docP fs=([],d2.e)):=by
         refine(zu HD).trans (docE_bad (zu hDC) (zu HP) ?_ he2);rw[zu HDF,if_pos he2]
        clear he2
        go_wp2_with (go_at_call 39;refine Calls.mono (zu HCW2) ?_;rintro e w2 ⟨rfl,hk2,hf2⟩;have F3:=zh ((zu F2).trans hf2);obtain⟨sa2,ns2,sc2,ca2,nc2,cc2,ea2,ne2,ec2,hC2⟩:=hk2;have HC3:=zh hC2;have hr2:=hC2.row;obtain⟨c0,c1,c2,c3,c4,c5,c6,zf⟩:=ck_c hr2;have HL1:=zh hC2.hns;have HL2:=zh hC2.hnc;clear hf2 hC2 hr2)
        have HW:Nonempty (RGw w2):=⟨⟨w2,Ext.refl _⟩⟩;have k6:∀ y:RGw w2,y.w.cell? ⟨V.heap.size,6,none⟩=some (.int .i64 d2.e):=fun y=>y.h.cell c6;refine wp_region_rx (W:=w2) (by kernel_rfl) (by kernel_rfl) (Ext.refl _) ?_
        repeat (go_big_quiet_step (fail))
        refine wpQuiet_nil ?_;rintro w4 ⟨n4,hn4⟩;have X4:=zh (((zu X0).trans ((zu F3).ext V (Nat.le_refl _) (zu X1))).trans (hn4 ▸ n4.h));clear hn4 n4
        go_wp2_with fail
        rw[zu HAN];exact bodyPost_ret (v:=.tuple #[.slice none 0 0,.int .i64 d2.e]) (by simp[results,Tryz.results15]) rfl ⟨zu X4,none,0,rfl,Nat.le_refl _,Or.inl rfl⟩
       by_cases h64:64 < d2.lc
       ·have hd64:decide (64 < d2.lc)=true:=by simp[h64]
        have HAN:Hd (docP fs=([],65)):=by
         refine(zu HD).trans (docE_bad (zu hDC) (zu HP) ?_ (by decide));rw[zu HDF,if_neg (by simp[he2]),if_pos h64]
        have HE2:=zh he2;clear he2
        go_wp2_with (go_at_call 39;refine Calls.mono (zu HCW2) ?_;rintro e w2 ⟨rfl,hk2,hf2⟩;have F3:=zh ((zu F2).trans hf2);obtain⟨sa2,ns2,sc2,ca2,nc2,cc2,ea2,ne2,ec2,hC2⟩:=hk2;have HC3:=zh hC2;have hr2:=hC2.row;rw[zu HE2] at hr2;obtain⟨c0,c1,c2,c3,c4,c5,c6,zf⟩:=ck_c hr2;have HL1:=zh hC2.hns;have HL2:=zh hC2.hnc;clear hf2 hC2 hr2)
        rw[zu HAN];exact bodyPost_ret (v:=.tuple #[.slice none 0 0,.int .i64 65]) (by simp[results,Tryz.results15]) rfl ⟨(zu X0).trans ((zu F3).ext V (Nat.le_refl _) (zu X1)),none,0,rfl,Nat.le_refl _,Or.inl rfl⟩
       have hd64:decide (64 < d2.lc)=false:=by simp;omega
       have HDN:Hd (dChk fs fs []=dChk fs (fs.drop (i+1)) (acc++[⟨d2.lc,d2.sl,d2.cl⟩])):=by
        have h9:dFn fs p=(⟨d2.lc,d2.sl,d2.cl⟩,0):=by rw[zu HDF,if_neg (by simp[he2]),if_neg h64]
        have h8:=dChk_on (fs:=fs) (acc:=acc) (zu HP) (by rw[h9]);rw[h9] at h8;exact(zu hDC).trans h8
       have HE2:=zh he2;clear he2 hDC;obtain⟨xs,hox,hrx⟩:=(zu hQ).own;have HO:Hd (∀ W,Ext V W→W.ownsRow w.heap.size 79 3 (.slice ao acc.length cap) acc.length xs∧RowSc W (fun b=>w.heap.size≤b∧b < W.heap.size∧some b≠(Value.slice ao acc.length cap).ownBlock) acc xs):=fun W k=>⟨own_extC hox k,RowSc.to (fun b hb=>⟨⟨hb.1,Nat.lt_of_lt_of_le hb.2.1 k.size,hb.2.2⟩,k.block b hb.2.1⟩) hrx⟩;clear hox hrx
       go_wp2_with (first
        | (go_at_call 39;refine Calls.mono (zu HCW2) ?_;rintro e w2 ⟨rfl,hk2,hf2⟩;have F3:=zh ((zu F2).trans hf2);obtain⟨sa2,ns2,sc2,ca2,nc2,cc2,ea2,ne2,ec2,hC2⟩:=hk2;have HC3:=zh hC2;have hr2:=hC2.row;rw[zu HE2] at hr2;obtain⟨c0,c1,c2,c3,c4,c5,c6,zf⟩:=ck_c hr2;have HL1:=zh hC2.hns;have HL2:=zh hC2.hnc;clear hf2 hC2 hr2;have XV:=zh ((zu F3).ext V (Nat.le_refl _) (zu X1)))
        | (at_builtin;refine wpList_append_where rfl (.tmp 131) (.tmp 136) 72 rfl w.heap.size 79 SO0 (scV 0 none 0 0 none 0 0) 3 56 Tryz.underlying72 (zu HSO) (zu ZSO0) (zu ZSO1) (zu ZSO2) rfl (by decide) ao acc.length cap xs rfl (zu HO _ ((zu XV).trans (Ext.alloc _ _))).1 ⟨w2.heap.size,0,none⟩ 1 1 [.int .i64 d2.lc,.slice sa2 ns2 sc2,.slice ca2 nc2 cc2] rfl (by decide) rfl (cells_new w2 _ _) (one_sc _ _ _ _ _ _ _) ?c1 ?c2 ?c3 ?_))
       case c1=>unfold maxLen;omega
       case c2=>omega
       case c3=>have hzv:=(zu XV).size;simp;omega
       intro g2 cap6 w6 ho6 hg6 hw6;have Q6:=zh ((zu hQ).snoc (Nat.le_refl _) (zu XV) (zu HC3) (Ext.alloc _ _) (zu HO _ ((zu XV).trans (Ext.alloc _ _))) ho6 hg6 (by rw[size_alloc];exact hw6));have e0:=(zu Q6).ext.cell (zu HCW 0 _ rfl);simp only[Nat.add_zero] at e0;clear ho6 hg6 hw6 c0 c1 c2 c3 c4 c5 c6 zf;cases hm:(p.nm.toList == [109,97,105,110])
       ·have HM:=zh ((zu hM).no (zu HP) hm)
        generalize p.nm=pnm at *
        go_wp2_with fail
        go_roundw
        case rel=>exact⟨i+1,_,_,_,mn,by go_num,by omega,rfl,by rw[List.length_append];rfl,by simp;omega,Q6,HDN,HM⟩
        case measure=>simp[intOf];omega
       ·have HM:=zh (MainI.yes (zu HP) hm (i+1))
        generalize p.nm=pnm at *
        go_wp2_with fail
        go_roundw
        case rel=>exact⟨i+1,_,_,_,(i:Int),by go_num,by omega,rfl,by rw[List.length_append];rfl,by simp;omega,Q6,HDN,HM⟩
        case measure=>simp[intOf];omega
    ·have HDE:Hd (docP fs=if mainD fs≠0 then ([],mainD fs) else (acc,0)):=by
      refine(zu HD).trans (docE_end ?_);have h9:=zu hDC;rw[show i=fs.length by omega,List.drop_length,dChk] at h9;exact h9
     have X0:=zh (zu hQ).ext;rcases zu hM with⟨rfl,hno⟩ | ⟨m,p,rfl,hp,hy⟩
     ·have HAN:Hd (docP fs=([],11)):=by
       rw[Hd,zu HDE,mainD_none (fun q hq=>hno q (by rw[show i=fs.length by omega,List.take_length];exact hq))];rfl
      clear hM hno
      go_wp2_with fail
      rw[zu HAN];exact bodyPost_ret (v:=.tuple #[.slice none 0 0,.int .i64 11]) (by simp[results,Tryz.results15]) rfl ⟨zu X0,none,0,rfl,Nat.le_refl _,Or.inl rfl⟩
     ·have hms:=mainD_some hp hy (zu HN m p hp)
      have hmlt:=(List.getElem?_eq_some_iff.1 hp).1;rw[hFN] at hmlt;obtain⟨b,off,pa,pc,qa,qc,rfl,hbl,hc,hpc,hS,hqc,hL⟩:=(zu HR).at m p hp;have e1:=(zu X0).cell (hc 1 _ rfl);by_cases hpz:0 < p.ps.length
      ·have HAN:Hd (docP fs=([],12)):=by
        rw[Hd,zu HDE,hms,if_pos hpz];rfl
       have hpd:decide (0 < (p.ps.length:Int))=true:=by simp;omega
       clear hM hy hp hms hc hS hL hqc;generalize p.ps.length=pn at *
       go_wp2_with fail
       rw[zu HAN];exact bodyPost_ret (v:=.tuple #[.slice none 0 0,.int .i64 12]) (by simp[results,Tryz.results15]) rfl ⟨zu X0,none,0,rfl,Nat.le_refl _,Or.inl rfl⟩
      ·have HAN:Hd (docP fs=(acc,0)):=by
        rw[Hd,zu HDE,hms,if_neg hpz];rfl
       have hpe:p.ps.length=0:=by omega
       rw[hpe] at e1;have HFN:=zh (zu hQ).fin;clear hM hy hp hms hc hS hL hqc hpz
       go_wp2_with fail
       rw[zu HAN];exact bodyPost_ret (v:=.tuple #[.slice ao acc.length cap,.int .i64 0]) (by simp[results,Tryz.results15]) rfl ⟨zu X0,ao,cap,rfl,(zu HFN).1,(zu HFN).2⟩
end
end Go.Proofs.YtjnpehohialmbaaGreat
