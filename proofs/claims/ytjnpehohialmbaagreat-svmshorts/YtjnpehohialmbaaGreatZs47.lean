/- The document's Program,where all goes well. -/
import Derived.Test.YtjnpehohialmbaaGreatZs46
set_option linter.unusedSimpArgs false
set_option linter.unusedVariables false
set_option maxRecDepth 10000
set_option maxHeartbeats 4000000
namespace Go.Proofs.YtjnpehohialmbaaGreat
open Go.RowKit
section
variable {g:Nat} {w w' w2:World}
theorem infoSfR:(Tryz.prog.info? 82).map (fun i=>(i.zero,i.size,i.bytes))=some (some (.agg #[.string ⟨#[]⟩,.int .i64 0,.int .i64 0,.slice none 0 0,.slice none 0 0]),5,80):=by kernel_rfl
theorem infoBoR:(Tryz.prog.info? 4).map (fun i=>(i.zero,i.size,i.bytes))=some (some (.bool false),1,1):=by kernel_rfl
theorem rprogram_ok (f K:Nat) (fs:List PFn) (sc:List PSc) (fns:List V.KF) (fa:Option Addr) (fc:Nat) (hK:K≤1000000) (hF:RepFL w (fun b=>b < w.heap.size) fs fa) (hcap:fs.length≤fc) (hl:fs.length≤16) (hps:∀ p ∈ fs,p.ps.length≤1000) (hg:∀ p ∈ fs,gX p.bd) (hz:∀ p ∈ fs,nsz p.bd≤5000) (hd:docP fs=(sc,0)) (hr:rFns f fs sc 0 []=some fns) (hv:∀ (z:Nat) (q:V.KF),fns[z]? = some q→V.HdOk q∧∃ hs:List Int,hs.length=q.code.length∧V.kHgt fns (z:Int) K=some (hs,0)) (hB:V.KfB fns) :
  Calls Tryz.prog 9 #[.slice fa fs.length fc] w fun e' w' => ∃ pa pc,e' = .returned (.tuple #[V.kpV pa fns.length pc (rMain fs 0 0),.int .i64 0])∧V.RepP w' (fun q=>w.heap.size < q∧q < w'.heap.size) pa fns∧Ext w w':=by
 obtain⟨wz,hwz⟩:∃ wz,wz=w.alloc (prR none 0 0 0):=⟨_,rfl⟩;have Xz:Ext w wz:=by rw[hwz];exact Ext.alloc _ _
 have rz:wz.heap[w.heap.size]? = some (prR none 0 0 0):=by rw[hwz];exact Go.heap_alloc_new w _
 have hsz:wz.heap.size=w.heap.size+1:=by rw[hwz];simp
 have HC:=zh (rcheck_w fs fa fc wz (hF.to (fun b hb=>⟨Nat.lt_of_lt_of_le hb Xz.size,Xz.block b hb⟩)) hcap (by omega) hps hg hz);rw[hd] at HC;have RZ:=zh rz;have XZ:=zh Xz;have HWZ:=zh hwz;have HF:=zh hF;have HR:=zh hr;have HV:=zh hv;have HB:=zh hB;obtain⟨i0,hi,hz0,hz1,hz2⟩:=info_parts infoSfR;have HI:=zh hi;have Z0:=zh hz0;have Z1:=zh hz1;have Z2:=zh hz2;clear hi hz0 hz1 hz2;obtain⟨j0,hi,hz0,hz1,hz2⟩:=info_parts infoBoR;have JI:=zh hi;have Y0:=zh hz0;have Y1:=zh hz1;have Y2:=zh hz2;clear hi hz0 hz1 hz2 hF hr hv hB rz Xz hwz hd hps hg hz
 go_enter Tryz.func9,Tryz.ntmps9
 go_wp2_with (go_at_call 15;rw[zu HWZ] at HC;refine Calls.mono (zu HC) ?_;rintro e1 w1 ⟨hx,sb,scap,rfl,hsc,hS⟩;rw[← zu HWZ] at hx hS;have X1:=zh ((zu XZ).trans hx);have RZ1:=zh (hx.row (zu RZ));have HS:=zh hS;clear hx hS)
 have hzl:w.heap.size < w1.heap.size:=(Array.getElem?_eq_some_iff.1 (zu RZ1)).1
 go_loopw [7,8,9] (fun t7 t8 t9 wr => ∃ (i:Nat) (tk m:Int) (acc:List V.KF) (ads:List KAdR) (pa:Option Addr) (pc:Nat) (ga:Option Addr) (gc:Nat),t7 = .int .i64 tk∧t8 = .slice ga i gc∧t9 = .int .i64 (i:Int)∧i≤fs.length∧acc.length=i∧(0≤tk∧tk≤4095)∧Hd (PgR w1 wr w1.heap.size (V.obk ga) m acc ads pa pc)∧Hd (wr.ownsRow (w1.heap.size+1) 4 1 (.slice ga i gc) i (List.replicate i (.bool false)))∧Hd (rFns f (fs.drop i) (sc.drop i) tk acc=some fns)∧Hd (rMain (fs.drop i) i m=rMain fs 0 0)) (fun _ _ t _=>fs.length - (intOf t).toNat)
 case atStart =>
  refine⟨0,0,0,[],[],none,0,none,0,rfl,rfl,rfl,by omega,rfl,by omega,⟨Ext.alloc _ _,Nat.le_refl _,Go.heap_alloc_new w1 _,rfl,World.ownsRow_nil _ _ _ _,fun i f a h1 _=>by simp at h1⟩,World.ownsRow_nil _ _ _ _,by simpa [Hd] using HR,rfl⟩
 case round =>
  obtain⟨i,tk,m,acc,ads,pa,pc,ga,gc,rfl,rfl,rfl,hi,hacc,htk,hPg,hBo,hE,hMn⟩:=hrel;by_cases hlt:i < fs.length
  ·have hlt2:(i:Int) < (fs.length:Int):=by omega
   obtain⟨p,hp⟩:∃ p,fs[i]? = some p:=⟨_,List.getElem?_eq_getElem hlt⟩;have hE2:=zu hE;have hM2:=zu hMn;rw[List.drop_eq_getElem_cons hlt,(List.getElem?_eq_some_iff.1 hp).2] at hE2 hM2;rw[rMain] at hM2;cases hsd:sc.drop i with
   | nil=>rw[hsd,rFns] at hE2;cases hE2
   | cons s q =>
   rw[hsd,rFns] at hE2;have hsl:i < sc.length:=by
    have:=congrArg List.length hsd;simp at this;omega
   have hsi:sc[i]? = some s:=by
    have:=List.drop_eq_getElem_cons hsl;rw[hsd] at this;injection this with h1 h2;rw[List.getElem?_eq_getElem hsl,h1]
   have hq:q=sc.drop (i+1):=by
    have:=List.drop_eq_getElem_cons hsl;rw[hsd] at this;injection this with h1 h2
   have hsl2:(i:Int) < (sc.length:Int):=by omega
   cases ho:rOne f p s tk with
   | none=>rw[ho] at hE2;cases hE2
   | some mm =>
   rw[ho] at hE2;simp only at hE2
   split at hE2
   rotate_left
   ·cases hE2
   rename_i hbnd;obtain⟨m1,hm1,ho⟩:=rB_some ho;obtain⟨emm,okm⟩:=rG_some ho;rw[hq] at hE2;have HE2:=zh hE2;have HM2:=zh hM2;have hX0:=(zu hPg).ext;have hgr:=(zu hPg).lt;have hw1r:w1.heap.size≤wr.heap.size:=Nat.le_of_lt hgr;obtain⟨fb,fo,qa0,qc0,qa,qc,e1,hfb,hfc,_,_,hqc,hbl⟩:=(zu HF).at i p hp;subst e1;have hk1:∀ b,b < w.heap.size→wr.heap[b]? = w.heap[b]?:=fun b hb=>((zu X1).trans hX0).block b hb;have hc:∀ (r:Nat) (u:Value),(fnC p qa0 qc0 qa qc)[r]? = some u→wr.cell? ⟨fb,fo+i * 7+r,none⟩=some u:=fun r u hu=>by
    rw[World.cell?_of_block (w:=w) (hk1 fb hfb)];exact hfc r u hu
   have HNM:Hd (w.cell? ⟨fb,fo+i * 7,none⟩=some (.string p.nm)):=hfc 0 _ rfl;have f0:=hc 0 _ rfl;have f1:=hc 1 _ rfl;have f2:=hc 2 _ rfl;have f3:=hc 3 _ rfl;have f4:=hc 4 _ rfl;have f5:=hc 5 _ rfl;have f6:=hc 6 _ rfl;rw[Nat.add_zero] at f0;obtain⟨sbb,sa,scp,ca,ccp,e3,n0,n1,n2,hsbl,hRs,hRc⟩:=scAtR (zu HS) (fun b hb=>hb.2) i s hsi (fun b hb=>hX0.block b hb);subst e3;have hfb2:fb≠wr.heap.size:=by have:=(zu X1).size;omega
   have hsb2:sbb≠wr.heap.size:=by omega
   have hfb3:(fb == wr.heap.size)=false:=by simpa using hfb2
   have hsb3:(sbb == wr.heap.size)=false:=by simpa using hsb2
   obtain⟨W4,hW4⟩:∃ W4,W4=wr.alloc (rgO ⟨p.nm,(p.ps.length:Int),s.lc,s.lc,sa,scp,ca,ccp⟩ s.sl.length s.cl.length (.slice none 0 0) (.slice none 0 0) 0 0 tk (.slice none 0 0) (.slice none 0 0)):=⟨_,rfl⟩;have k4:∀ b,b < wr.heap.size→W4.heap[b]? = wr.heap[b]?:=fun b hb=>by
    rw[hW4];exact(Ext.alloc wr _).block b hb
   have r4:W4.heap[wr.heap.size]? = some (rgO ⟨p.nm,(p.ps.length:Int),s.lc,s.lc,sa,scp,ca,ccp⟩ s.sl.length s.cl.length (.slice none 0 0) (.slice none 0 0) 0 0 tk (.slice none 0 0) (.slice none 0 0)):=by
    rw[hW4];exact Go.heap_alloc_new wr _
   have hs4:W4.heap.size=wr.heap.size+1:=by rw[hW4];simp
   have S4:RS wr.heap.size W4 ⟨p.nm,(p.ps.length:Int),s.lc,s.lc,sa,scp,ca,ccp⟩ s.sl s.cl ⟨[],[],0,0,tk,[],[]⟩ none 0 none 0 none 0 none 0:=RS.init r4 (hRs.to (fun b hb=>⟨by omega,k4 b (by omega)⟩)) (hRc.to (fun b hb=>⟨by omega,k4 b (by omega)⟩));have hok0:(⟨[],[],0,0,tk,[],[]⟩:RG).ok=true:=by
    unfold RG.ok;simp;omega
   have hbd:RepN W4 (fun b=>b < wr.heap.size) p.bd (.agg #[.int .i64 p.bd.k,.int .i64 p.bd.o,.string p.bd.s,.int .i64 p.bd.n,.slice qa p.bd.l.length qc]):=by
    obtain⟨nm,ps,⟨k,o,s2,n,l⟩⟩:=p;rw[RepN];exact⟨qa,qc,rfl,hqc,RepNL.to (fun b hb=>⟨by have:=(zu X1).size;omega,(k4 b (by have:=(zu X1).size;omega)).trans (hk1 b hb)⟩) _ _ hbl⟩
   have o1:=rok_parts (((rN_all wr.heap.size ⟨p.nm,(p.ps.length:Int),s.lc,s.lc,sa,scp,ca,ccp⟩ s.sl s.cl f).2 _ _ _ hm1).2 hok0);have H0:=zh ((rN_all wr.heap.size ⟨p.nm,(p.ps.length:Int),s.lc,s.lc,sa,scp,ca,ccp⟩ s.sl s.cl f).1 _ _ _ hm1 hok0 W4 _ _ _ _ _ _ _ _ _ S4 hbd);have H1:=zh (fun (W:World) (x:RGAns wr.heap.size W4 ⟨p.nm,(p.ps.length:Int),s.lc,s.lc,sa,scp,ca,ccp⟩ s.sl s.cl m1 none none W)=>rconst_k none x (by omega) (by omega));have H2:=zh (fun (W:World) (x:RGAns wr.heap.size W4 ⟨p.nm,(p.ps.length:Int),s.lc,s.lc,sa,scp,ca,ccp⟩ s.sl s.cl (m1.cst none) none none W)=>radd_k x (by rw[cst_len];omega) 10 0 0);have HS4:=zh S4;have HK4:=zh k4;have HW4:=zh hW4;rw[hW4] at H0;have HEM:=zh emm;have HAc:=zh hacc;clear hacc;have g0:=fun ob=>(Ext.alloc wr ob).cell f0
   have g1:=fun ob=>(Ext.alloc wr ob).cell f1;have g2:=fun ob=>(Ext.alloc wr ob).cell f2;have g3:=fun ob=>(Ext.alloc wr ob).cell f3;have g4:=fun ob=>(Ext.alloc wr ob).cell f4;have g5:=fun ob=>(Ext.alloc wr ob).cell f5;have g6:=fun ob=>(Ext.alloc wr ob).cell f6;have l0:=fun ob=>(Ext.alloc wr ob).cell n0;clear S4 hbd r4 k4 hok0 hc hfc hbl hRs hRc hE hMn hE2 hM2 hsd hq ho hm1 emm hW4 hk1
   go_wp2_with (first
    | (have G:=zu HS4;clear G;go_at_call 16;refine Calls.mono (zu H0) ?_;rintro e w5 ⟨rfl,hr⟩;rw[← zu HW4] at hr;have R1:=zh hr;clear hr HS4 f0 f1 f2 f3 f4 f5 f6 g0 g1 g2 g3 g4 g5 g6 n0 n1 n2 l0)
    | (have G:=zu R1;clear G;go_at_call 17;refine Calls.mono (zu H1 _ (zu R1)) ?_;rintro e w6 ⟨rfl,hr⟩;have R2:=zh hr;clear hr R1)
    | (have G:=zu R2;clear G;go_at_call 18;refine Calls.mono (zu H2 _ (zu R2)) ?_;rintro e w7 ⟨rfl,hr⟩;rw[zu HEM] at hr;clear R2;obtain⟨ka,kc,ca7,cc7,ba,bc,na,nc,S7,F7,_,_⟩:=hr;obtain⟨c3,c4,c6,c7,c8,c9,c10,c11,c12,c13,zf⟩:=rg_c S7.row;have HS7:=zh S7;have HF7:=zh F7;clear S7 F7))
   have K7:∀ q,q < wr.heap.size→w7.heap[q]? = wr.heap[q]?:=fun q hq=>((zu HF7).low q hq).trans (zu HK4 q hq);have hs7:wr.heap.size < w7.heap.size:=(zu HS7).lt;have X7:Ext w1 w7:=(zu HF7).toExt (hX0.trans (by rw[zu HW4];exact Ext.alloc _ _)) hw1r;have PG7:=zh ((zu hPg).keep X7 (Nat.le_of_lt hs7) K7);have OB7:Hd (w7.ownsRow (w1.heap.size+1) 4 1 (.slice ga i gc) i (List.replicate i (.bool false))):=own_keepM (zu hBo) (fun q hq=>K7 q ((zu hBo).lt q hq).2);have hxb:∀ q,V.obk ga=some q→q < wr.heap.size:=fun q e=>((zu hBo).lt q ((obk_any _ _ _).trans e)).2;have hxg:∀ q,V.obk ga=some q→w1.heap.size+1≤q:=fun q e=>((zu hBo).lt q ((obk_any _ _ _).trans e)).1;have p0:=zr (zu PG7).row 0 rfl;have pf:=rowF (zu PG7).row;have m0:=zr (zu HS7).row 0 rfl
   have m1c:=zr (zu HS7).row 1 rfl;have m2c:=zr (zu HS7).row 2 rfl;have HOw:=zh (fun ob=>own_extM (zu PG7).own (Ext.drew (Ext.alloc w7 ob)));have hw17:w1.heap.size < w7.heap.size:=by omega
   have hwn7:w1.heap.size≠w7.heap.size:=by omega
   have hwg7:wr.heap.size≠w7.heap.size:=by omega
   have hacl:acc.length≤16:=by rw[zu HAc];omega
   have HX7:=zh X7;have HXB:=zh hxb;have HXG:=zh hxg;have HK7:=zh K7;have HCs:Hd (mm.cs.all V.rcB=true):=(rok_parts okm).2.2.2.1;have hcs7:mm.cs.length≤50000:=(rok_parts okm).2.1;have hcd7:mm.code.length≤1000:=hbnd.1;have htk7:0≤mm.tk∧mm.tk≤4095:=⟨(rok_parts okm).2.2.1.1,hbnd.2⟩;clear K7 X7 hxb hxg c6 c7 c8 c9 c12 c13 o1 okm;refine wp_nrm ?_
   go_region_law (first
    | (refine step_append_where rfl (.tmp 82) (.tmp 87) 23 rfl (w1.heap.size+1) 82 i0 (.agg #[.string ⟨#[]⟩,.int .i64 0,.int .i64 0,.slice none 0 0,.slice none 0 0]) 5 80 Tryz.underlying23 (zu HI) (zu Z0) (zu Z1) (zu Z2) rfl (by decide) pa acc.length pc (kfsR acc ads) (by simp[Act.eval,Act.put]) (zu HOw _) ⟨w7.heap.size,0,none⟩ 1 1 [.string p.nm,.int .i64 (p.ps.length:Int),.int .i64 s.lc,.slice ca7 mm.cs.length cc7,.slice ka mm.code.length kc] (by simp[Act.eval,Act.put]) (by decide) rfl (cells_new w7 _ _) (by intro u hu;simp at hu;rcases hu with rfl | rfl | rfl | rfl | rfl <;> rfl) (by unfold maxLen;omega) (by omega) (by simp;omega) ?_;intro g6 cap6 w6 ho6 hg6 hw6;have hbp6:w6.heap[w1.heap.size]? = some (prR pa acc.length pc m):=(hg6.block w1.heap.size (by simp;omega) (fun e=>by have:=((zu PG7).own.lt w1.heap.size e.symm).1;omega)).trans ((Ext.drew (Ext.alloc w7 _)).row (zu PG7).row);have y0:=zr hbp6 0 rfl;have yf:=rowF hbp6;have HO6:=zh ho6;have HG6:=zh hg6;have HW6:=zh hw6;clear ho6 hg6 hw6 hbp6))
   all_goals
    refine nrm_outR ?_;have hkf:kfR (rKF p s mm) ((ca7,cc7),(ka,kc)) = [.string p.nm,.int .i64 (p.ps.length:Int),.int .i64 s.lc,.slice ca7 mm.cs.length cc7,.slice ka mm.code.length kc]:=by simp[kfR,rKF]
    have SP:=PgR.add (zu HXB) (zu hPg) ((zu PG7).on (Ext.drew (Ext.refl w7))) (Nat.le_of_lt hs7) (rKF p s mm) ((ca7,cc7),(ka,kc)) (((zu HS7).ext (Ext.drew (Ext.refl w7))).rows (zu HCs)) (zu HG6) (by rw[hkf];exact zu HO6) (by have h9:=zu HW6;simpa using h9);have r8:(w6.setCell ⟨w1.heap.size,0,none⟩ (.slice (some ⟨g6,0,none⟩) (acc.length+1) cap6)).heap[wr.heap.size]? = some _:=((Below.heap_setCell _ _ _ _ (by show wr.heap.size≠w1.heap.size;omega)).trans ((zu HG6).block wr.heap.size (by simp;omega) (fun e9=>by have:=((zu hPg).own.lt _ e9.symm).2;omega))).trans ((Ext.drew (Ext.alloc w7 _)).row (zu HS7).row)
    have OB8:(w6.setCell ⟨w1.heap.size,0,none⟩ (.slice (some ⟨g6,0,none⟩) (acc.length+1) cap6)).ownsRow (w1.heap.size+1) 4 1 (.slice ga i gc) i (List.replicate i (.bool false)):=ownsRow_setCell_below ((own_extM (zu OB7) (Ext.drew (Ext.alloc w7 _))).kept (zu HG6) (own_twoM (zu OB7) (zu PG7).own (by decide))) (Nat.lt_succ_self _) _;generalize hW8:w6.setCell ⟨w1.heap.size,0,none⟩ (.slice (some ⟨g6,0,none⟩) (acc.length+1) cap6)=W8 at SP r8 OB8 ⊢;have d4:=zr r8 4 rfl;have d11:=zr r8 11 rfl;have d10:=zr r8 10 rfl;have HSP:=zh SP;have HOB:=zh (fun ob=>own_extM OB8 (Ext.alloc W8 ob));have hl8:=SP.lt;have hwr8:=(Array.getElem?_eq_some_iff.1 r8).1;have q1:decide ((1000:Int) < (mm.code.length:Int))=false:=by simp;omega
    have q2:decide ((4095:Int) < mm.tk)=false:=by simp;omega
    have q3:¬ (1000:Int) < (mm.code.length:Int):=by omega
    have q4:¬ (4095:Int) < mm.tk:=by omega
    have hwr9:wr.heap.size≠W8.heap.size:=by omega
    clear SP r8 OB8 hW8 y0 yf hkf c3 c4 c10 c11 p0 pf m0 m1c m2c zf HO6 HG6 HW6
    go_wp2_with (at_builtin;refine wpList_append_where rfl (.tmp 90) (.tmp 108) 75 rfl (w1.heap.size+1) 4 j0 (.bool false) 1 1 Tryz.underlying75 (zu JI) (zu Y0) (zu Y1) (zu Y2) rfl (by decide) ga i gc (List.replicate i (.bool false)) rfl (zu HOB _) ⟨W8.heap.size,0,none⟩ 1 1 [.bool false] rfl (by decide) rfl (cells_new W8 _ _) (by intro u hu;simp at hu;rw[hu];rfl) ?c1 ?c2 ?c3 ?_)
    case c1=>unfold maxLen;omega
    case c2=>omega
    case c3=>first | omega | (simp;omega)
    intro g9 cap9 w9 ho9 hg9 hw9;have hob9:(Value.slice (some (⟨g6,0,none⟩:Addr)) (acc++[rKF p s mm]).length cap6).ownBlock=none∨(Value.slice (some (⟨g6,0,none⟩:Addr)) (acc++[rKF p s mm]).length cap6).ownBlock≠V.obk ga:=by
     have:=own_twoM ((zu HSP).on (Ext.alloc W8 (.cells #[.bool false] 4 (0,0)))).own (zu HOB (.cells #[.bool false] 4 (0,0))) (by decide)
     rwa [obk_any ga] at this
    have SP9:=PgR.grow (g':=g9) ((zu HSP).on (Ext.alloc W8 _)) (by have h9:=hg9;rw[obk_any ga] at h9;exact h9) (by have h9:=hw9;rw[obk_any ga] at h9;simpa using h9) (zu HXG) hob9;have OB9:w9.ownsRow (w1.heap.size+1) 4 1 (.slice (some ⟨g9,0,none⟩) (i+1) cap9) (i+1) (List.replicate (i+1) (.bool false)):=by
     rw[List.replicate_succ'];exact ho9
    have X9:Ext w w9:=(zu X1).trans SP9.ext;have z0:w9.cell? ⟨fb,fo+i * 7,none⟩=some (.string p.nm):=X9.cell (zu HNM);have z1:=zr SP9.row 1 rfl;have zf9:=rowF SP9.row;have HS9:=zh SP9;have HO9:=zh OB9;have HAc2:Hd ((acc++[rKF p s mm]).length=i+1):=by show _=_;rw[List.length_append,zu HAc];rfl
    have H10:=zh (zu HM2);clear SP9 OB9 X9 hob9 ho9 hg9 hw9 d4 d11 d10;cases hmn:isMain p with
    | true =>
     have hmn2:(p.nm.toList == [109,97,105,110])=true:=hmn;have H11:=zu H10;rw[hmn] at H11;have HM3:Hd (rMain (List.drop (i+1) fs) (i+1) (i:Int)=rMain fs 0 0):=H11;clear H11 hmn
     go_wp2_with fail
     go_roundw
     case rel=>exact⟨i+1,mm.tk,(i:Int),_,_,_,_,_,_,rfl,rfl,by go_num,by omega,zu HAc2,htk7,(zu HS9).setM,ownsRow_setCell_below (zu HO9) (Nat.lt_succ_self _) _,HE2,HM3⟩
     case measure=>simp[intOf];omega
    | false =>
     have hmn2:(p.nm.toList == [109,97,105,110])=false:=hmn;have H11:=zu H10;rw[hmn] at H11;have HM3:Hd (rMain (List.drop (i+1) fs) (i+1) m=rMain fs 0 0):=H11;clear H11 hmn
     go_wp2_with fail
     go_roundw
     case rel=>exact⟨i+1,mm.tk,m,_,_,_,_,_,_,rfl,rfl,by go_num,by omega,zu HAc2,htk7,HS9,HO9,HE2,HM3⟩
     case measure=>simp[intOf];omega
  ·have hil:i=fs.length:=by omega
   have hE2:=zu hE;have hM2:=zu hMn;rw[hil,List.drop_length,rFns] at hE2;rw[hil,List.drop_length,rMain] at hM2;injection hE2 with hE2;subst hE2;have hX0:=zh (zu hPg).ext;have hlf:¬ (i:Int) < (fs.length:Int):=by omega
   have HIL:=zh hil;have HAc:=zh hacc;have HMM:=zh hM2;clear hE hMn hM2 hil hlt hacc
   go_wp2_with fail
   go_loopw [11] (fun t wr2 => ∃ (z:Nat),t = .int .i64 (z:Int)∧z≤fs.length∧Hd (Ext wr wr2)) (fun t _=>fs.length - (intOf t).toNat)
   case atStart=>exact⟨0,rfl,by omega,Ext.refl _⟩
   case round =>
    obtain⟨z,rfl,hz,hX2⟩:=hrel;have PG2:=zh ((zu hPg).on (zu hX2));have p0:=zr (zu PG2).row 0 rfl;have p1:=zr (zu PG2).row 1 rfl;by_cases hz2:z < fs.length
    ·have hz3:(z:Int) < (fs.length:Int):=by omega
     obtain⟨q,hq⟩:∃ q,acc[z]? = some q:=⟨_,List.getElem?_eq_getElem (by rw[zu HAc,zu HIL];exact hz2)⟩;obtain⟨hHd,hs,hhs,hkh⟩:=zu HV z q hq;have hal:acc.length≤1000000:=by rw[zu HAc,zu HIL];omega
     have HVt:=zh (V.rvirt_ok acc z q pa pc m K hs _ (V.RepP.to (fun b hb=>⟨hb.1,rfl⟩) (zu PG2).prog) hal (zu HB) hK hq hHd hhs hkh);obtain⟨bb,hbb,hbc⟩:∃ bb,ga=some ⟨bb,0,none⟩∧wr.cell? ⟨bb,z,none⟩=some (.bool false):=by
      rcases id (zu hBo).2 with⟨e,e0⟩ | ⟨b,cap,cur,e,hb,hg,hn,_⟩
      ·have:=zu HIL;omega
      ·injection e with e1 e2 e3
       subst e1 e3;have hh:=(zu hBo).cells (g:=b) rfl z (.bool false) (by rw[List.getElem?_replicate,if_pos (by rw[zu HIL];exact hz2)]);rw[add0] at hh;exact⟨b,rfl,(zu hX2).cell hh⟩
     subst hbb;have hiz:(z:Int) < (i:Int):=by rw[zu HIL];exact hz3
     clear hq hHd hhs hkh hs
     go_wp2_with (go_at_call 19;refine Calls.mono (zu HVt) ?_;rintro e w9 ⟨⟨vv,rfl⟩,hx⟩;have X9:=zh ((zu hX2).trans hx);clear hx)
     go_roundw
     case rel=>exact⟨z+1,by go_num,by omega,X9⟩
     case measure=>simp[intOf];omega
    ·have hz3:¬ (z:Int) < (fs.length:Int):=by omega
     have XA:=zh ((zu X1).trans ((zu hX0).trans (zu hX2)));have r2:=((zu hX0).trans (zu hX2)).row (zu RZ1);have z0:=zr r2 0 rfl;have z1:=zr r2 1 rfl;have zf:=rowF r2;have hnw:w.heap.size≠w1.heap.size:=by omega
     clear r2
     go_wp2_with fail
     have hX:=((zu XA).set (p:=⟨w.heap.size,0,none⟩) (Nat.le_refl _) (.slice pa acc.length pc)).set (p:=⟨w.heap.size,1,none⟩) (Nat.le_refl _) (.int .i64 m);have hsz2:((wr.setCell ⟨w.heap.size,0,none⟩ (.slice pa acc.length pc)).setCell ⟨w.heap.size,1,none⟩ (.int .i64 m)).heap.size=wr.heap.size:=by simp[World.setCell]
     have hRp:V.RepP ((wr.setCell ⟨w.heap.size,0,none⟩ (.slice pa acc.length pc)).setCell ⟨w.heap.size,1,none⟩ (.int .i64 m)) (fun q=>w.heap.size < q∧q < ((wr.setCell ⟨w.heap.size,0,none⟩ (.slice pa acc.length pc)).setCell ⟨w.heap.size,1,none⟩ (.int .i64 m)).heap.size) pa acc:=V.RepP.to (fun q hq=>⟨⟨by omega,by rw[hsz2];exact hq.1⟩,by
      rw[Below.heap_setCell _ _ _ _ (by show q≠w.heap.size;omega),Below.heap_setCell _ _ _ _ (by show q≠w.heap.size;omega)]⟩) (zu PG2).prog
     rw[← zu HMM];exact bodyPost_ret (v:=.tuple #[V.kpV pa acc.length pc m,.int .i64 0]) (by simp[results,Tryz.results9,go_sem,z0,z1]) rfl ⟨pa,⟨pc,rfl⟩,hRp,hX⟩
end
end Go.Proofs.YtjnpehohialmbaaGreat
