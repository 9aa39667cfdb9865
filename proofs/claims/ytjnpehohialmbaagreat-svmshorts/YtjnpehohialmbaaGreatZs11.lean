/- A literal,in the document's own reader. -/
import Derived.Test.YtjnpehohialmbaaGreatZs8
set_option linter.unusedSimpArgs false
set_option linter.unusedVariables false
set_option maxRecDepth 10000
set_option maxHeartbeats 8000000
namespace Go.Proofs.YtjnpehohialmbaaGreat
open Go.RowKit
section
variable {w w':World} {g len:Nat} {T:List Tk} {wd:Int} {st:PS}
theorem first_5 (f:Nat) (ex:Rdr) (h0:st.e=0) (hk:(hdT st.ts 0).k=5) (h:Rp w g len T wd st) :
  Calls Tryz.prog 118 #[.pointer (some ⟨g,0,none⟩)] w (RNode w g len T wd (sglP len ex f st)):=by
 have hg:=h.lt;have htl:=h.tl;have e1:sglP len ex f st=(⟨17,0,(hdT st.ts 0).t,0,[]⟩,st.next):=by
  unfold sglP;rw[noS (by rw[hk];decide),noS (by rw[hk];decide),noW (by rw[hk];decide),noC (by rw[hk];decide)];unfold litP;simp[hk]
 rw[e1];have HK:=zh (fun W (x:Ext w W)=>kind_r (h.ext x) h0);rw[hk] at HK;rcases h.hd h0 with⟨hn,_⟩ | ⟨b,off,cap,i,pl,x,r,hx,hi,hd,h1,hb,hcc,hcm,p0,p1,p2,p3,-⟩
 ·rw[hd_nil hn] at hk;exact absurd hk (by decide)
 rw[hd_cons hx] at hk ⊢;obtain⟨i2,ci,hi2,hstep⟩:=h.step h0 (by rw[hx];simp);obtain⟨c0,c1,c2,c3,c4,c5,c6,zf⟩:=rp_c h1;obtain rfl:i=i2:=by
  rw[c1] at ci;injection ci with ci;injection ci with _ ci;omega
 have HS:=zh hstep;have H1:=zh h1;have hbw:b < w.heap.size:=by omega
 have hbg:(b == g)=false:=by simp;omega
 clear h1 h hd hx hstep ci e1;generalize T.length=N at *
 go_enter Tryz.func118,Tryz.ntmps118
 go_wp2_with (go_at_call 62;refine Calls.mono (zu HK _ (Ext.alloc _ _)) ?_;rintro e w1 ⟨rfl,hw⟩;have X1:=zh ((Ext.alloc _ _).trans hw);have R1:=zh (hw.row (Go.heap_alloc_new w _));have r0:=zr (zu R1) 0 rfl;have r1:=zr (zu R1) 1 rfl;have r2:=zr (zu R1) 2 rfl;have r3:=zr (zu R1) 3 rfl;have r4:=zr (zu R1) 4 rfl;have rz:=rowF (zu R1);have hrg:=(zu X1).row (zu H1);obtain⟨c0,c1,c2,c3,c4,c5,c6,zf⟩:=rp_c hrg;have p0:=(zu X1).cell p0;have p1:=(zu X1).cell p1;have p2:=(zu X1).cell p2;have p3:=(zu X1).cell p3;have hg1:w.heap.size < w1.heap.size:=(Array.getElem?_eq_some_iff.1 (zu R1)).1;clear hw hrg)
 obtain⟨W1,hW1⟩:∃ W1,W1=w1.setCell ⟨g,1,none⟩ (.int .i64 ((i:Int)+1)):=⟨_,rfl⟩;rw[← hW1];have hS1:Rp W1 g len T wd st.next:=by rw[hW1];exact zu HS w1 (Gr.of (zu X1)) ((zu X1).block g hg)
 have hG1:Gr g w1 W1:=by rw[hW1];exact(Gr.refl _ _).set (p:=⟨g,_,none⟩) (Or.inr rfl) _
 have hrg:W1.heap[g]? = some (rpO (.slice (some ⟨b,off,none⟩) N cap) (i+1) 0 pl st.op len wd):=by rw[hW1];exact row_set ((zu X1).row (zu H1)) 1 _
 have R2:=zh (hG1.row (zu R1) (by omega));have p0:=hG1.cell p0 (by omega);have p1:=hG1.cell p1 (by omega);have p2:=hG1.cell p2 (by omega);have p3:=hG1.cell p3 (by omega);clear r0 r1 r2 r3 r4 rz c0 c1 c2 c3 c4 c5 c6 zf;obtain⟨c0,c1,c2,c3,c4,c5,c6,zf⟩:=rp_c hrg;have r0:=zr (zu R2) 0 rfl;have r1:=zr (zu R2) 1 rfl;have r2:=zr (zu R2) 2 rfl;have r3:=zr (zu R2) 3 rfl;have r4:=zr (zu R2) 4 rfl;have rz:=rowF (zu R2);have S1:=zh hS1;have G1:=zh ((Gr.of (zu X1)).trans hG1);have hi1:(((i+1:Nat):Int))=(i:Int)+1:=by omega
 rw[hi1] at c1;have hgW:g < W1.heap.size:=hS1.lt;clear hW1 hrg hS1 hG1
 go_region
 go_wp2_with fail
 exact bodyPost_ret (v:=nodV 17 0 x.t 0 (.slice none 0 0)) (by simp[results,Tryz.results118,go_sem,r0,r1,r2,r3,r4]) rfl (rnode_end (l:=[]) hg ((zu S1).ext (Ext.drew (Ext.refl _))) (zu G1).drew (Nat.le_refl _) trivial (fun _=>rfl))
end
section
structure RGw (W:World) where
 w:World
 h:Ext W w
theorem wp_region_rx {P:Program} {id:Nat} {Q:Exit→Act→World→Prop} {a:Act} {w W:World} {l:List Oper} (hm:P.follows .mixedOrders=true) (hB:Region.lexB .any l.toArray=true) (hw:Ext W w)
  (h:wpQuiet P l.toArray (fun w' => ∃ n:RGw W,w' = n.w) (fun a' => ∀ w',(∃ n:RGw W,w' = n.w)→Q .normal a' w') l a):(Code.region id l.toArray true).wp P Q a w :=
 wp_region_quiet (C:=fun w' => ∃ n:RGw W,w' = n.w) hm hB ⟨⟨_,Ext.drew hw⟩,rfl⟩ (by simpa using h)
theorem Calls.rx_of {P:Program} {f:FuncId} {args:Array Value} {W:World} (n:RGw W) (v:Value) (h:Calls P f args n.w fun e w'=>e = .returned v∧Ext n.w w') :
  Calls P f args n.w fun e w''=>e = .returned v∧∃ m:RGw W,w'' = m.w :=
 h.mono fun _ _ ⟨he,hx⟩=>⟨he,⟨_,n.h.trans hx⟩,rfl⟩
end
section
variable {w w':World} {g len:Nat} {T:List Tk} {wd:Int} {st:PS}
theorem first_call (f:Nat) (ex:Rdr) (hge:GoodR ex) (hse:Shorter ex) (hf:st.ts.length < f) (hf2:f≤100000) (hex:∀ s:PS,s.ts.length < st.ts.length→RIs g len T wd 1 ex s) (h0:st.e=0) (hk:(hdT st.ts 0).k=1) (hcall:st.isCall=true) (h:Rp w g len T wd st) :
  Calls Tryz.prog 118 #[.pointer (some ⟨g,0,none⟩)] w (RNode w g len T wd (sglP len ex f st)):=by
 have hg:=h.lt;have htl:=h.tl;have HK:=zh (fun W (x:Ext w W)=>kind_r (h.ext x) h0);rw[hk] at HK;rcases h.hd h0 with⟨hn,_⟩ | ⟨b,off,cap,i,pl,x,r,hx,hi,hd,h1,hb,hcc,hcm,p0,p1,p2,p3,hV⟩
 ·rw[hd_nil hn] at hk;exact absurd hk (by decide)
 rw[hd_cons hx] at hk;obtain⟨i2,ci,hi2,hstep⟩:=h.step h0 (by rw[hx];simp);obtain⟨c0,c1,c2,c3,c4,c5,c6,zf⟩:=rp_c h1;obtain rfl:i=i2:=by
  rw[c1] at ci;injection ci with ci;injection ci with _ ci;omega
 have HS:=zh hstep;have H1:=zh h1;have hbw:b < w.heap.size:=by omega
 have hbg:(b == g)=false:=by simp;omega
 obtain⟨y,hy,hyk,hyt⟩:∃ y,T[i+1]? = some y∧y.k=6∧y.t=⟨#[40]⟩:=by
  unfold PS.isCall at hcall;rw[Bool.and_eq_true] at hcall;have h2:=hcall.2;unfold isT at h2;rw[Bool.and_eq_true,beq_iff_eq] at h2;have h3:hdT st.ts 1=(T[i+1]?).getD tkZ:=by
   unfold hdT;rw[hx,← hd,List.getElem?_drop]
  rw[h3] at h2;cases hq:T[i+1]? with
  | none=>rw[hq] at h2;exact absurd h2.1 (by decide)
  | some y =>
   rw[hq] at h2;refine⟨y,rfl,h2.1,?_⟩;have h4:y.t.toList=(⟨#[40]⟩:ByteArray).toList:=by simpa using h2.2
   rw[toL,toL] at h4;exact L_inj h4
 have hi1:i+1 < T.length:=(List.getElem?_eq_some_iff.1 hy).1;obtain⟨b',off',cap',y',hsl,_,_,_,hy',q0,q1,q2,q3⟩:=hV.at (i+1) hi1;injection hsl with e1 _ _;injection e1 with e1;injection e1 with e1 e2 _;subst e1 e2;obtain rfl:y=y':=by rw[← hy'];unfold hdT;rw[hy];rfl
 rw[hyk] at q0;have q0:w.cell? ⟨b,off+(i+1) * 4,none⟩=some (.int .i64 6):=q0;have q1:w.cell? ⟨b,off+(i+1) * 4+1,none⟩=some (.string ⟨#[40]⟩):=by rw[← hyt];exact q1
 have hts:st.ts=x :: y :: r.tail:=by
  rw[hx]
  congr 1
  have:r=T.drop (i+1):=by
   have h9:=congrArg List.tail hd;rw[← List.drop_one,List.drop_drop] at h9;exact h9.symm
  rw[this,List.drop_eq_getElem_cons hi1,List.tail_cons]
  congr 1
  exact(Option.some.inj ((List.getElem?_eq_getElem hi1).symm.trans hy))
 have hsg:sglP len ex f st=callP len ex f st:=by
  unfold sglP;rw[noS (by rw[hd_cons hx,hk];decide),noS (by rw[hd_cons hx,hk];decide),noW (by rw[hd_cons hx,hk];decide),hcall];rfl
 obtain⟨RS,hRS⟩:∃ RS:PN × PS,RS=callP len ex f st:=⟨_,rfl⟩;rw[hsg,← hRS];have H:=zh h;have hnv:=h.nv;have hxt:Hd ((hdT st.ts 0).t=x.t):=by rw[Hd,hd_cons hx]
 have HTS:=zh hts;have hyk2:=hyk;clear h1 h hx hstep ci hV hsg;generalize T.length=N at *
 go_enter Tryz.func118,Tryz.ntmps118
 go_wp2_with (go_at_call 62;refine Calls.mono (zu HK _ (Ext.alloc _ _)) ?_;rintro e w1 ⟨rfl,hw⟩;have X1:=zh ((Ext.alloc _ _).trans hw);have R1:=zh (hw.row (Go.heap_alloc_new w _));have r0:=zr (zu R1) 0 rfl;have r1:=zr (zu R1) 1 rfl;have r2:=zr (zu R1) 2 rfl;have r3:=zr (zu R1) 3 rfl;have r4:=zr (zu R1) 4 rfl;have rz:=rowF (zu R1);have hrg:=(zu X1).row (zu H1);obtain⟨c0,c1,c2,c3,c4,c5,c6,zf⟩:=rp_c hrg;have p0:=(zu X1).cell p0;have p1:=(zu X1).cell p1;have p2:=(zu X1).cell p2;have p3:=(zu X1).cell p3;have q0:=(zu X1).cell q0;have q1:=(zu X1).cell q1;have hg1:w.heap.size < w1.heap.size:=(Array.getElem?_eq_some_iff.1 (zu R1)).1;clear hw hrg)
 have HW:Nonempty (RGw w1):=⟨⟨w1,Ext.refl _⟩⟩;have k0:∀ y:RGw w1,y.w.cell? ⟨g,0,none⟩=some (.slice (some ⟨b,off,none⟩) N cap):=fun y=>y.h.cell c0;have k1:∀ y:RGw w1,y.w.cell? ⟨g,1,none⟩=some (.int .i64 (i:Int)):=fun y=>y.h.cell c1;have k2:∀ y:RGw w1,y.w.cell? ⟨b,off+i * 4+1,none⟩=some (.string x.t):=fun y=>y.h.cell p1;have k3:∀ y:RGw w1,y.w.cell? ⟨b,off+(i+1) * 4,none⟩=some (.int .i64 6):=fun y=>y.h.cell q0;have k4:∀ y:RGw w1,y.w.cell? ⟨b,off+(i+1) * 4+1,none⟩=some (.string ⟨#[40]⟩):=fun y=>y.h.cell q1;have hq1:¬ ((N:Int)≤(i:Int)+1):=by omega
 have hq2:decide ((N:Int)≤(i:Int)+1)=false:=by simp;omega
 have hq3:(i:Int)+1 < (N:Int):=by omega
 have HC1:=zh c1;clear r0 r1 r2 r3 r4 rz c0 c1 c2 c3 c4 c5 c6 zf p0 p1 p2 p3 q0 q1;refine wp_region_rx (W:=w1) (by kernel_rfl) (by kernel_rfl) (Ext.refl _) ?_
 repeat (go_big_quiet_step (fail))
 refine wpQuiet_nil ?_;rintro w2 ⟨n2,hn2⟩;have hx2:Ext w1 w2:=hn2 ▸ n2.h;clear hn2 n2
 go_wp2_with fail
 refine wp_region_rx (W:=w1) (by kernel_rfl) (by kernel_rfl) hx2 ?_
 repeat (go_big_quiet_step (fail))
 refine wpQuiet_nil ?_;rintro w3 ⟨n3,hn3⟩;have hx3:Ext w1 w3:=hn3 ▸ n3.h;clear hn3 n3 hx2 k0 k1 k2 k3 k4 HW hq1 hq2 hq3;have X3:=zh ((zu X1).trans hx3);have R3:=zh (hx3.row (zu R1));have hz3:w.heap.size < w3.heap.size:=(Array.getElem?_eq_some_iff.1 (zu R3)).1;clear hx3 X1 R1 HC1;have n1:=enter_nv hnv len;cases he:((st.enter len).e == 0)
 ·have hbe:(st.enter len).e≠0:=by simpa using he
  have k1:=name_kp n1 len;have n2:=k1.nv n1;have k2:=psign_kp n2 len ⟨#[40]⟩;have k3:=ops_kp (len:=len) hge f ⟨#[41]⟩ _ (k2.nv n2);have kk:=k1.trans (k2.trans k3);have hb2:=kk.bad hbe;have HR1:Hd (RS.2.e=(st.enter len).e):=by rw[Hd,hRS];exact hb2.1
  have HR2:Hd (RS.2.pl=(st.enter len).pl):=by rw[Hd,hRS];exact hb2.2
  have HR3:Hd (RS.2.ts = []):=by rw[Hd,hRS];exact kk.nil (by rw[hb2.1];exact hbe)
  have HBE:=zh hbe;have HIn:Hd (∀ W,Rp W g len T wd st→Calls Tryz.prog 64 #[.pointer (some ⟨g,0,none⟩)] W (RAns W g len T wd (.bool false) (st.enter len))):=fun W x=>he ▸ in_r x;clear n1 k1 n2 k2 k3 kk hb2 hbe he hRS
  go_wp2_with (have T9:=zu X3;go_at_call 64;refine Calls.mono (zu HIn _ ((zu H).ext T9)) ?_;rintro e w4 ⟨rfl,hs,hw⟩;have S4:=zh hs;have G4:=zh ((Gr.of T9).trans hw);have RB:=zh (hw.row (zu R3) (by omega));have r0:=zr (zu RB) 0 rfl;have r1:=zr (zu RB) 1 rfl;have r2:=zr (zu RB) 2 rfl;have r3:=zr (zu RB) 3 rfl;have r4:=zr (zu RB) 4 rfl;have rz:=rowF (zu RB);clear hw hs T9)
  exact bodyPost_ret (v:=nodV 0 0 zE 0 (.slice none 0 0)) (by simp[results,Tryz.results118,go_sem,r0,r1,r2,r3,r4]) rfl (rnode_end (l:=[]) hg ((zu S4).as2 (zu HBE) (zu HR1) (zu HR2) (zu HR3)) (zu G4) (Nat.le_refl _) trivial (fun e=>absurd ((zu HR1).symm.trans e) (zu HBE)))
 ·have hbe:(st.enter len).e=0:=by simpa using he
  have hup:=(enter_ok hbe).2;have hets:(st.enter len).ts=st.ts:=by rw[hup];rfl
  have heop:(st.enter len).op=wrap64 (st.op+1):=by rw[hup];rfl
  have hrg:=hnv.rng h0;have HIn:Hd (∀ W,Rp W g len T wd st→Calls Tryz.prog 64 #[.pointer (some ⟨g,0,none⟩)] W (RAns W g len T wd (.bool true) (st.enter len))):=fun W x=>he ▸ in_r x;have hc1:((st.enter len).name len)=(x.t,(st.enter len).next):=by
   unfold PS.name;rw[hets,hts];show (if x.k=1 then _ else _)=_
   rw[if_pos hk];rfl
  have hc2:(st.enter len).next.sign len ⟨#[40]⟩=(st.enter len).next.next:=by
   unfold PS.sign;have:(st.enter len).next.isS ⟨#[40]⟩=true:=by
    unfold PS.isS isT;have e9:hdT (st.enter len).next.ts 0=y:=by show hdT (st.enter len).ts.tail 0=y;rw[hets,hts];rfl
    rw[e9,hyk,hyt];simp
   rw[this];rfl
  have hRS2:RS=(⟨20,0,x.t,0,(opsP len ex f ⟨#[41]⟩ (st.enter len).next.next).1⟩,(opsP len ex f ⟨#[41]⟩ (st.enter len).next.next).2.leave):=by
   rw[hRS];unfold callP;rw[hc1];simp only;rw[hc2]
  have hn2:(st.enter len).next.next.ts.length < st.ts.length:=by show (st.enter len).ts.tail.tail.length < _;rw[hets,hts];simp;omega
  have k1:=next_kp n1;have k2:=next_kp (k1.nv n1);have k3:=ops_kp (len:=len) hge f ⟨#[41]⟩ _ (k2.nv (k1.nv n1));have HKK:=zh (k1.trans (k2.trans k3));have hes2:(st.enter len).next.next.e=0:=hbe;have HRest:=zh (fun (W:World) (x:Rp W g len T wd (st.enter len).next.next)=>rest_r f ex hge hse ⟨#[41]⟩ (by decide +kernel) hes2 (by omega) hf2 (fun s hs=>hex s (by omega)) x);have HRS:=zh hRS2;have hts2:(st.enter len).ts=x :: y :: r.tail:=hets.trans hts;clear n1 k1 k2 k3 he hRS hRS2 hup hc1 hc2
  go_wp2_with (have T9:=zu X3;go_at_call 64;refine Calls.mono (zu HIn _ ((zu H).ext T9)) ?_;rintro e w4 ⟨rfl,hs,hw⟩;have S4:=zh hs;have G4:=zh ((Gr.of T9).trans hw);have RB:=zh (hw.row (zu R3) (by omega));obtain⟨i4,c1,hi4,hstep⟩:=hs.step2 hbe hts2;obtain⟨V4,i5,pl4,dp4,hrow4,-⟩:=hs.ex;have zf:=rowF hrow4;have HStep:=zh hstep;clear hw hs T9 hstep hrow4)
  obtain⟨W4,hW4⟩:∃ W4,W4=w4.setCell ⟨g,1,none⟩ (.int .i64 ((i4:Int)+2)):=⟨_,rfl⟩;rw[← hW4];have hS5:Rp W4 g len T wd (st.enter len).next.next:=by rw[hW4];exact zu HStep w4 (Gr.refl _ _) rfl
  have hG4:Gr g w W4:=by rw[hW4];exact(zu G4).set (p:=⟨g,_,none⟩) (Or.inr rfl) _
  have hR4:W4.heap[w.heap.size]? = some (nodO 0 0 zE 0 (.slice none 0 0)):=by rw[hW4];exact row_other (zu RB) (by show w.heap.size≠g;omega) _ _
  have R4:=zh hR4;have G5:=zh hG4;have hz4:w.heap.size < W4.heap.size:=(Array.getElem?_eq_some_iff.1 hR4).1;have HRest2:=zh (zu HRest W4 hS5);clear hW4 hS5 hG4 hR4 c1 zf HStep S4 G4 RB HRest
  go_wp2_with (go_at_call 146;refine Calls.mono (zu HRest2) ?_;rintro e w5 ⟨ps,a,cap,rfl,hcap,hl,hp,hs,hw⟩;have S5:=zh hs;have P5:=zh hp;have L5:=zh hl;have G6:=zh ((zu G5).trans hw);have hz45:W4.heap.size≤w5.heap.size:=hw.size;have RB:=zh (hw.row (zu R4) (by omega));have r0:=zr (zu RB) 0 rfl;have r1:=zr (zu RB) 1 rfl;have r2:=zr (zu RB) 2 rfl;have r3:=zr (zu RB) 3 rfl;have r4:=zr (zu RB) 4 rfl;have rz:=rowF (zu RB);obtain⟨dp5,c4,hshut⟩:=hs.shut (fun e=>by have:=((zu HKK).ok e).2;rw[this,heop];unfold wrap64;omega);obtain⟨V5,i5,pl5,dpx,hrow5,-⟩:=hs.ex;have zf:=rowF hrow5;have HShut:=zh hshut;have hg5:g < w5.heap.size:=hs.lt;have hwg:(w.heap.size == g)=false:=(by simp;omega);have hz5:w.heap.size < w5.heap.size:=(by omega);clear hw hs hl hp hshut hrow5)
  obtain⟨W6,hW6⟩:∃ W6,W6=w5.setCell ⟨g,4,none⟩ (.int .i64 (wrap64 (dp5 - 1))):=⟨_,rfl⟩;have hz6:W6.heap.size=w5.heap.size:=by rw[hW6];simp[World.setCell]
  have hS6:Rp W6 g len T wd RS.2:=by rw[zu HRS,hW6];exact zu HShut w5 (Gr.refl _ _) rfl
  have hG56:Gr g w5 W6:=by rw[hW6];exact(Gr.refl _ _).set (p:=⟨g,_,none⟩) (Or.inr rfl) _
  rw[← hW6];have hrowF:((set5 W6 w.heap.size 20 0 x.t 0 (.slice a ps.length cap)).alloc (nodO 20 0 x.t 0 (.slice a ps.length cap))).heap[w.heap.size]? = some (nodO 20 0 x.t 0 (.slice a ps.length cap)):=(Ext.alloc _ _).row (set5_row (hG56.row (zu RB) (by omega)) _ _ _ _ _);exact bodyPost_ret (v:=nodV 20 0 x.t 0 (.slice a ps.length cap)) (res_nodR Tryz.results118 _ _ w.heap.size _ _ _ _ _ rfl hrowF) rfl (rlist_end (b0:=W4.heap.size) hg hz4 hz6 hS6 (zu G6) hG56 hcap (zu L5) hz5 (fun e=>by rw[zu HRS] at e ⊢;rw[zu P5 e]))
end
section
variable {w w':World} {g len:Nat} {T:List Tk} {wd:Int} {st:PS}
theorem first_list (f:Nat) (ex:Rdr) (hge:GoodR ex) (hse:Shorter ex) (hf:st.ts.length < f) (hf2:f≤100000) (hex:∀ s:PS,s.ts.length < st.ts.length→RIs g len T wd 1 ex s) (h0:st.e=0) (hS:st.isS ⟨#[91]⟩=true) (h:Rp w g len T wd st) :
  Calls Tryz.prog 118 #[.pointer (some ⟨g,0,none⟩)] w (RNode w g len T wd (sglP len ex f st)):=by
 have hg:=h.lt;have hk6:(hdT st.ts 0).k=6:=by
  unfold PS.isS isT at hS;rw[Bool.and_eq_true] at hS
  simpa using hS.1
 have htx:(hdT st.ts 0).t.toList = [91]:=by
  unfold PS.isS isT at hS;rw[Bool.and_eq_true] at hS
  simpa using hS.2
 have hS0:st.isS ⟨#[40]⟩=false:=by
  unfold PS.isS isT;rw[htx,hk6];decide +kernel
 have hW:st.isW ⟨#[110,105,108]⟩=false:=noW (by rw[hk6];decide) _;have hne:st.ts≠[]:=isS_ne hS;have hsg:sglP len ex f st=listP len ex f st:=by
  unfold sglP;rw[hS0,hS];rfl
 obtain⟨RS,hRS⟩:∃ RS:PN × PS,RS=listP len ex f st:=⟨_,rfl⟩;rw[hsg,← hRS];have H:=zh h;have hnv:=h.nv;have HK:=zh (fun W (x:Ext w W)=>kind_r (h.ext x) h0);rw[hk6] at HK;have HTk:Hd (∀ W,Ext w W→Calls Tryz.prog 35 #[.pointer (some ⟨g,0,none⟩),.string ⟨#[110,105,108]⟩] W (RAns W g len T wd (.bool false) st)):=fun W x=>by
  have:=take_w (h.ext x) ⟨#[110,105,108]⟩ (by decide +kernel);have e:st.takeW ⟨#[110,105,108]⟩=(false,st):=by unfold PS.takeW;rw[hW];rfl
  rw[e] at this;exact this
 have HI1:Hd (∀ W,Rp W g len T wd st→Calls Tryz.prog 63 #[.pointer (some ⟨g,0,none⟩),.string ⟨#[40]⟩] W fun e w'=>e = .returned (.bool false)∧Ext W w'):=fun W x=>by
  have:=is_r x h0 ⟨#[40]⟩;rw[isA_S x h0 (by decide +kernel),hS0] at this;exact this
 have HI2:Hd (∀ W,Rp W g len T wd st→Calls Tryz.prog 63 #[.pointer (some ⟨g,0,none⟩),.string ⟨#[91]⟩] W fun e w'=>e = .returned (.bool true)∧Ext W w'):=fun W x=>by
  have:=is_r x h0 ⟨#[91]⟩;rw[isA_S x h0 (by decide +kernel),hS] at this;exact this
 obtain⟨V,i,pl,dp,h1,-⟩:=h.ex;rw[h0] at h1;obtain⟨c0,c1,c2,c3,c4,c5,c6,zf⟩:=rp_c h1;clear h1 h hsg
 go_enter Tryz.func118,Tryz.ntmps118
 go_wp2_with (first
  | (go_at_call 62;refine Calls.mono (zu HK _ (Ext.alloc _ _)) ?_;rintro e w1 ⟨rfl,hw⟩;have X1:=zh ((Ext.alloc _ _).trans hw);have R1:=zh (hw.row (Go.heap_alloc_new w _));clear hw)
  | (have T9:=zu X1;go_at_call 35;refine Calls.mono (zu HTk _ T9) ?_;rintro e w2 ⟨rfl,hs,hw⟩;have S2:=zh hs;have G2:=zh ((Gr.of T9).trans hw);have hz1:w.heap.size < w1.heap.size:=(Array.getElem?_eq_some_iff.1 (zu R1)).1;have R2:=zh (hw.row (zu R1) (by omega));clear hw hs T9 X1 R1)
  | (have T9:=zu S2;go_at_call 63;refine Calls.mono (zu HI1 _ T9) ?_;rintro e w3 ⟨rfl,hw⟩;have S2b:=zh (T9.ext hw);have G2b:=zh ((zu G2).trans (Gr.of hw));have R2b:=zh (hw.row (zu R2));clear hw T9 S2 G2 R2)
  | (have T9:=zu S2b;go_at_call 63;refine Calls.mono (zu HI2 _ T9) ?_;rintro e w3b ⟨rfl,hw⟩;have S3:=zh (T9.ext hw);have G3:=zh ((zu G2b).trans (Gr.of hw));have R3:=zh (hw.row (zu R2b));clear hw T9 S2b G2b R2b))
 have n1:=enter_nv hnv len;have hz3:w.heap.size < w3b.heap.size:=(Array.getElem?_eq_some_iff.1 (zu R3)).1;cases he:((st.enter len).e == 0)
 ·have hbe:(st.enter len).e≠0:=by simpa using he
  have q1:=psign_kp n1 len ⟨#[91]⟩;have kk:=q1.trans (ops_kp (len:=len) hge f ⟨#[93]⟩ _ (q1.nv n1));have hb2:=kk.bad hbe;have HR1:Hd (RS.2.e=(st.enter len).e):=by rw[Hd,hRS];exact hb2.1
  have HR2:Hd (RS.2.pl=(st.enter len).pl):=by rw[Hd,hRS];exact hb2.2
  have HR3:Hd (RS.2.ts = []):=by rw[Hd,hRS];exact kk.nil (by rw[hb2.1];exact hbe)
  have HBE:=zh hbe;have HIn:Hd (∀ W,Rp W g len T wd st→Calls Tryz.prog 64 #[.pointer (some ⟨g,0,none⟩)] W (RAns W g len T wd (.bool false) (st.enter len))):=fun W x=>he ▸ in_r x;clear n1 kk hb2 hbe he hRS
  go_wp2_with (have T9:=zu S3;go_at_call 64;refine Calls.mono (zu HIn _ T9) ?_;rintro e w4 ⟨rfl,hs,hw⟩;have S4:=zh hs;have G4:=zh ((zu G3).trans hw);have RB:=zh (hw.row (zu R3) (by omega));have r0:=zr (zu RB) 0 rfl;have r1:=zr (zu RB) 1 rfl;have r2:=zr (zu RB) 2 rfl;have r3:=zr (zu RB) 3 rfl;have r4:=zr (zu RB) 4 rfl;have rz:=rowF (zu RB);clear hw hs T9)
  exact bodyPost_ret (v:=nodV 0 0 zE 0 (.slice none 0 0)) (by simp[results,Tryz.results118,go_sem,r0,r1,r2,r3,r4]) rfl (rnode_end (l:=[]) hg ((zu S4).as2 (zu HBE) (zu HR1) (zu HR2) (zu HR3)) (zu G4) (Nat.le_refl _) trivial (fun e=>absurd ((zu HR1).symm.trans e) (zu HBE)))
 ·have hbe:(st.enter len).e=0:=by simpa using he
  have hup:=(enter_ok hbe).2;have hets:(st.enter len).ts=st.ts:=by rw[hup];rfl
  have heop:(st.enter len).op=wrap64 (st.op+1):=by rw[hup];rfl
  have hrg:=hnv.rng h0;have HIn:Hd (∀ W,Rp W g len T wd st→Calls Tryz.prog 64 #[.pointer (some ⟨g,0,none⟩)] W (RAns W g len T wd (.bool true) (st.enter len))):=fun W x=>he ▸ in_r x;have hn1:(st.enter len).next.ts.length < st.ts.length:=by rw[← hets];exact next_lt_of (by rw[hets];exact hne)
  have hes2:(st.enter len).next.e=0:=hbe;have k1:=next_kp n1;have hc2:(st.enter len).sign len ⟨#[91]⟩=(st.enter len).next:=by
   unfold PS.sign;have:(st.enter len).isS ⟨#[91]⟩=true:=by
    unfold PS.isS at hS ⊢;rw[hets];exact hS
   rw[this];rfl
  have hRS2:RS=(⟨21,0,zE,0,(opsP len ex f ⟨#[93]⟩ (st.enter len).next).1⟩,(opsP len ex f ⟨#[93]⟩ (st.enter len).next).2.leave):=by
   rw[hRS];unfold listP;rw[hc2]
  have HKK:=zh (k1.trans (ops_kp (len:=len) hge f ⟨#[93]⟩ _ (k1.nv n1)));have HRest:=zh (fun (W:World) (x:Rp W g len T wd (st.enter len).next)=>rest_r f ex hge hse ⟨#[93]⟩ (by decide +kernel) hes2 (by omega) hf2 (fun s hs=>hex s (by omega)) x);have HRS:=zh hRS2;clear hRS2 hc2;clear n1 k1 he hRS hup
  go_wp2_with (have T9:=zu S3;go_at_call 64;refine Calls.mono (zu HIn _ T9) ?_;rintro e w4 ⟨rfl,hs,hw⟩;have S4:=zh hs;have G4:=zh ((zu G3).trans hw);have RB:=zh (hw.row (zu R3) (by omega));obtain⟨i4,c1,hi4,hstep⟩:=hs.step hbe (by rw[hets];exact hne);obtain⟨V4,i5,pl4,dp4,hrow4,-⟩:=hs.ex;have zf:=rowF hrow4;have HStep:=zh hstep;clear hw hs T9 hstep hrow4)
  obtain⟨W4,hW4⟩:∃ W4,W4=w4.setCell ⟨g,1,none⟩ (.int .i64 ((i4:Int)+1)):=⟨_,rfl⟩;rw[← hW4];have hS5:Rp W4 g len T wd (st.enter len).next:=by rw[hW4];exact zu HStep w4 (Gr.refl _ _) rfl
  have hG4:Gr g w W4:=by rw[hW4];exact(zu G4).set (p:=⟨g,_,none⟩) (Or.inr rfl) _
  have hR4:W4.heap[w.heap.size]? = some (nodO 0 0 zE 0 (.slice none 0 0)):=by rw[hW4];exact row_other (zu RB) (by show w.heap.size≠g;omega) _ _
  have R4:=zh hR4;have G5:=zh hG4;have hz4:w.heap.size < W4.heap.size:=(Array.getElem?_eq_some_iff.1 hR4).1;have HRest2:=zh (zu HRest W4 hS5);clear hW4 hS5 hG4 hR4 c1 zf HStep S4 G4 RB HRest
  go_wp2_with (go_at_call 146;refine Calls.mono (zu HRest2) ?_;rintro e w5 ⟨ps,a,cap,rfl,hcap,hl,hp,hs,hw⟩;have S5:=zh hs;have P5:=zh hp;have L5:=zh hl;have G6:=zh ((zu G5).trans hw);have hz45:W4.heap.size≤w5.heap.size:=hw.size;have RB:=zh (hw.row (zu R4) (by omega));have r0:=zr (zu RB) 0 rfl;have r1:=zr (zu RB) 1 rfl;have r2:=zr (zu RB) 2 rfl;have r3:=zr (zu RB) 3 rfl;have r4:=zr (zu RB) 4 rfl;have rz:=rowF (zu RB);obtain⟨dp5,c4,hshut⟩:=hs.shut (fun e=>by have:=((zu HKK).ok e).2;rw[this,heop];unfold wrap64;omega);obtain⟨V5,i5,pl5,dpx,hrow5,-⟩:=hs.ex;have zf:=rowF hrow5;have HShut:=zh hshut;have hg5:g < w5.heap.size:=hs.lt;have hwg:(w.heap.size == g)=false:=(by simp;omega);have hz5:w.heap.size < w5.heap.size:=(by omega);clear hw hs hl hp hshut hrow5)
  obtain⟨W6,hW6⟩:∃ W6,W6=w5.setCell ⟨g,4,none⟩ (.int .i64 (wrap64 (dp5 - 1))):=⟨_,rfl⟩;have hz6:W6.heap.size=w5.heap.size:=by rw[hW6];simp[World.setCell]
  have hS6:Rp W6 g len T wd RS.2:=by rw[zu HRS,hW6];exact zu HShut w5 (Gr.refl _ _) rfl
  have hG56:Gr g w5 W6:=by rw[hW6];exact(Gr.refl _ _).set (p:=⟨g,_,none⟩) (Or.inr rfl) _
  rw[← hW6];have hrowF:((set5 W6 w.heap.size 21 0 zE 0 (.slice a ps.length cap)).alloc (nodO 21 0 zE 0 (.slice a ps.length cap))).heap[w.heap.size]? = some (nodO 21 0 zE 0 (.slice a ps.length cap)):=(Ext.alloc _ _).row (set5_row (hG56.row (zu RB) (by omega)) _ _ _ _ _);exact bodyPost_ret (v:=nodV 21 0 zE 0 (.slice a ps.length cap)) (res_nodR Tryz.results118 _ _ w.heap.size _ _ _ _ _ rfl hrowF) rfl (rlist_end (b0:=W4.heap.size) hg hz4 hz6 hS6 (zu G6) hG56 hcap (zu L5) hz5 (fun e=>by rw[zu HRS] at e ⊢;rw[zu P5 e]))
end
section
variable {w w':World} {g len:Nat} {T:List Tk} {wd:Int} {st:PS}
theorem first_par (f:Nat) (ex:Rdr) (hge:GoodR ex) (hse:Shorter ex) (hf:st.ts.length < f) (hf2:f≤100000) (hex:∀ s:PS,s.ts.length < st.ts.length→RIs g len T wd 1 ex s) (h0:st.e=0) (hS:st.isS ⟨#[40]⟩=true) (h:Rp w g len T wd st) :
  Calls Tryz.prog 118 #[.pointer (some ⟨g,0,none⟩)] w (RNode w g len T wd (sglP len ex f st)):=by
 have hg:=h.lt;have hk6:(hdT st.ts 0).k=6:=by
  unfold PS.isS isT at hS;rw[Bool.and_eq_true] at hS
  simpa using hS.1
 have hW:st.isW ⟨#[110,105,108]⟩=false:=noW (by rw[hk6];decide) _;have hne:st.ts≠[]:=isS_ne hS;have hsg:sglP len ex f st=inBrP len ex ⟨#[41]⟩ st:=by
  unfold sglP;rw[hS];rfl
 obtain⟨RS,hRS⟩:∃ RS:PN × PS,RS=inBrP len ex ⟨#[41]⟩ st:=⟨_,rfl⟩;rw[hsg,← hRS];have H:=zh h;have hnv:=h.nv;have HK:=zh (fun W (x:Ext w W)=>kind_r (h.ext x) h0);rw[hk6] at HK;have HTk:Hd (∀ W,Ext w W→Calls Tryz.prog 35 #[.pointer (some ⟨g,0,none⟩),.string ⟨#[110,105,108]⟩] W (RAns W g len T wd (.bool false) st)):=fun W x=>by
  have:=take_w (h.ext x) ⟨#[110,105,108]⟩ (by decide +kernel);have e:st.takeW ⟨#[110,105,108]⟩=(false,st):=by unfold PS.takeW;rw[hW];rfl
  rw[e] at this;exact this
 have HI2:Hd (∀ W,Rp W g len T wd st→Calls Tryz.prog 63 #[.pointer (some ⟨g,0,none⟩),.string ⟨#[40]⟩] W fun e w'=>e = .returned (.bool true)∧Ext W w'):=fun W x=>by
  have:=is_r x h0 ⟨#[40]⟩;rw[isA_S x h0 (by decide +kernel),hS] at this;exact this
 obtain⟨V,i,pl,dp,h1,-⟩:=h.ex;rw[h0] at h1;obtain⟨c0,c1,c2,c3,c4,c5,c6,zf⟩:=rp_c h1;clear h1 h hsg
 go_enter Tryz.func118,Tryz.ntmps118
 go_wp2_with (first
  | (go_at_call 62;refine Calls.mono (zu HK _ (Ext.alloc _ _)) ?_;rintro e w1 ⟨rfl,hw⟩;have X1:=zh ((Ext.alloc _ _).trans hw);have R1:=zh (hw.row (Go.heap_alloc_new w _));clear hw)
  | (have T9:=zu X1;go_at_call 35;refine Calls.mono (zu HTk _ T9) ?_;rintro e w2 ⟨rfl,hs,hw⟩;have S2:=zh hs;have G2:=zh ((Gr.of T9).trans hw);have hz1:w.heap.size < w1.heap.size:=(Array.getElem?_eq_some_iff.1 (zu R1)).1;have R2:=zh (hw.row (zu R1) (by omega));clear hw hs T9 X1 R1)
  | (have T9:=zu S2;go_at_call 63;refine Calls.mono (zu HI2 _ T9) ?_;rintro e w3b ⟨rfl,hw⟩;have S3:=zh (T9.ext hw);have G3:=zh ((zu G2).trans (Gr.of hw));have R3:=zh (hw.row (zu R2));clear hw T9 S2 G2 R2))
 have n1:=enter_nv hnv len;have hz3:w.heap.size < w3b.heap.size:=(Array.getElem?_eq_some_iff.1 (zu R3)).1;cases he:((st.enter len).e == 0)
 ·have hbe:(st.enter len).e≠0:=by simpa using he
  have q1:=next_kp n1;have q2:=hge _ (q1.nv n1);have kk:=(q1.trans q2).trans (psign_kp (q2.nv (q1.nv n1)) len ⟨#[41]⟩);have hb2:=kk.bad hbe;have HR1:Hd (RS.2.e=(st.enter len).e):=by rw[Hd,hRS];exact hb2.1
  have HR2:Hd (RS.2.pl=(st.enter len).pl):=by rw[Hd,hRS];exact hb2.2
  have HR3:Hd (RS.2.ts = []):=by rw[Hd,hRS];exact kk.nil (by rw[hb2.1];exact hbe)
  have HBE:=zh hbe;have HIn:Hd (∀ W,Rp W g len T wd st→Calls Tryz.prog 64 #[.pointer (some ⟨g,0,none⟩)] W (RAns W g len T wd (.bool false) (st.enter len))):=fun W x=>he ▸ in_r x;clear n1 kk hb2 hbe he hRS
  go_wp2_with (have T9:=zu S3;go_at_call 64;refine Calls.mono (zu HIn _ T9) ?_;rintro e w4 ⟨rfl,hs,hw⟩;have S4:=zh hs;have G4:=zh ((zu G3).trans hw);have RB:=zh (hw.row (zu R3) (by omega));have r0:=zr (zu RB) 0 rfl;have r1:=zr (zu RB) 1 rfl;have r2:=zr (zu RB) 2 rfl;have r3:=zr (zu RB) 3 rfl;have r4:=zr (zu RB) 4 rfl;have rz:=rowF (zu RB);clear hw hs T9)
  exact bodyPost_ret (v:=nodV 0 0 zE 0 (.slice none 0 0)) (by simp[results,Tryz.results118,go_sem,r0,r1,r2,r3,r4]) rfl (rnode_end (l:=[]) hg ((zu S4).as2 (zu HBE) (zu HR1) (zu HR2) (zu HR3)) (zu G4) (Nat.le_refl _) trivial (fun e=>absurd ((zu HR1).symm.trans e) (zu HBE)))
 ·have hbe:(st.enter len).e=0:=by simpa using he
  have hup:=(enter_ok hbe).2;have hets:(st.enter len).ts=st.ts:=by rw[hup];rfl
  have heop:(st.enter len).op=wrap64 (st.op+1):=by rw[hup];rfl
  have hrg:=hnv.rng h0;have HIn:Hd (∀ W,Rp W g len T wd st→Calls Tryz.prog 64 #[.pointer (some ⟨g,0,none⟩)] W (RAns W g len T wd (.bool true) (st.enter len))):=fun W x=>he ▸ in_r x;have hn1:(st.enter len).next.ts.length < st.ts.length:=by rw[← hets];exact next_lt_of (by rw[hets];exact hne)
  have hes2:(st.enter len).next.e=0:=hbe;have k1:=next_kp n1;have k2:=hge _ (k1.nv n1);have k3:=psign_kp (k2.nv (k1.nv n1)) len ⟨#[41]⟩;have HKK:=zh ((k1.trans k2).trans k3);have HKS:=zh k3;have HEx:=zh (hex (st.enter len).next hn1);unfold RIs at HEx;have HRS:Hd (RS=((ex (st.enter len).next).1,((ex (st.enter len).next).2.sign len ⟨#[41]⟩).leave)):=hRS;clear k2 k3;clear n1 k1 he hRS hup
  go_wp2_with (have T9:=zu S3;go_at_call 64;refine Calls.mono (zu HIn _ T9) ?_;rintro e w4 ⟨rfl,hs,hw⟩;have S4:=zh hs;have G4:=zh ((zu G3).trans hw);have RB:=zh (hw.row (zu R3) (by omega));obtain⟨i4,c1,hi4,hstep⟩:=hs.step hbe (by rw[hets];exact hne);obtain⟨V4,i5,pl4,dp4,hrow4,-⟩:=hs.ex;have zf:=rowF hrow4;have HStep:=zh hstep;clear hw hs T9 hstep hrow4)
  obtain⟨W4,hW4⟩:∃ W4,W4=w4.setCell ⟨g,1,none⟩ (.int .i64 ((i4:Int)+1)):=⟨_,rfl⟩;rw[← hW4];have hS5:Rp W4 g len T wd (st.enter len).next:=by rw[hW4];exact zu HStep w4 (Gr.refl _ _) rfl
  have hG4:Gr g w W4:=by rw[hW4];exact(zu G4).set (p:=⟨g,_,none⟩) (Or.inr rfl) _
  have hR4:W4.heap[w.heap.size]? = some (nodO 0 0 zE 0 (.slice none 0 0)):=by rw[hW4];exact row_other (zu RB) (by show w.heap.size≠g;omega) _ _
  have R4:=zh hR4;have G5:=zh hG4;have hz4:w.heap.size < W4.heap.size:=(Array.getElem?_eq_some_iff.1 hR4).1;have HEx2:=zh (zu HEx W4 hS5);clear hW4 hS5 hG4 hR4 c1 zf HStep S4 G4 RB HEx;have hwg:(w.heap.size == g)=false:=by simp;omega
  go_wp2_with (first
   | (go_at_call 97;refine Calls.mono (zu HEx2) ?_;rintro e w5 ⟨v,p2,rfl,hr,hp,hs,hw⟩;obtain⟨k2,o2,s2,n2,l2⟩:=p2;rw[RepN] at hr;obtain⟨a2,cap2,rfl,hcap2,hl3⟩:=hr;have S5:=zh hs;have P5:=zh hp;have L5:=zh hl3;have G6:=zh ((zu G5).trans hw);have hz45:W4.heap.size≤w5.heap.size:=hw.size;have RB:=zh (hw.row (zu R4) (by omega));clear hw hs hl3 hp)
   | (have T9:=zu S5;go_at_call 33;refine Calls.mono (want_s (T9.ext (Ext.alloc _ (nodO k2 o2 s2 n2 (.slice a2 l2.length cap2)))) ⟨#[41]⟩ (by decide +kernel)) ?_;rintro e w6 ⟨rfl,hs,hw⟩;have S6:=zh hs;have G7:=zh hw;obtain⟨dp6,c4,hshut⟩:=hs.shut (fun e=>by have:=((zu HKK).ok e).2;rw[this,heop];unfold wrap64;omega);obtain⟨V6,i6,pl6,dpx,hrow6,-⟩:=hs.ex;have zf:=rowF hrow6;have HShut:=zh hshut;have RE:=zh (hw.row ((Ext.alloc _ _).row (zu RB)) (by omega));have RQ:=zh (hw.row (Go.heap_alloc_new w5 _) (by omega));have hb36:w.heap.size < w6.heap.size:=(Array.getElem?_eq_some_iff.1 (zu RE)).1;have hb56:w5.heap.size < w6.heap.size:=(Array.getElem?_eq_some_iff.1 (zu RQ)).1;have hb5g:(w5.heap.size == g)=false:=(by simp;omega);have r0:=zr (zu RE) 0 rfl;have r1:=zr (zu RE) 1 rfl;have r2:=zr (zu RE) 2 rfl;have r3:=zr (zu RE) 3 rfl;have r4:=zr (zu RE) 4 rfl;have rz:=rowF (zu RE);have q0:=zr (zu RQ) 0 rfl;have q1:=zr (zu RQ) 1 rfl;have q2:=zr (zu RQ) 2 rfl;have q3:=zr (zu RQ) 3 rfl;have q4:=zr (zu RQ) 4 rfl;have qz:=rowF (zu RQ);clear hw hs hshut hrow6 T9))
  obtain⟨W7,hW7⟩:∃ W7,W7=w6.setCell ⟨g,4,none⟩ (.int .i64 (wrap64 (dp6 - 1))):=⟨_,rfl⟩;have hz7:W7.heap.size=w6.heap.size:=by rw[hW7];simp[World.setCell]
  have hS7:Rp W7 g len T wd RS.2:=by rw[zu HRS,hW7];exact zu HShut w6 (Gr.refl _ _) rfl
  have hG57:Gr g w5 W7:=by rw[hW7];exact((Gr.of (Ext.alloc _ _)).trans (zu G7)).set (p:=⟨g,_,none⟩) (Or.inr rfl) _
  rw[← hW7];have hrowF:(set5 W7 w.heap.size k2 o2 s2 n2 (.slice a2 l2.length cap2)).heap[w.heap.size]? = some (nodO k2 o2 s2 n2 (.slice a2 l2.length cap2)):=set5_row (hG57.row (zu RB) (by omega)) _ _ _ _ _;exact bodyPost_ret (v:=nodV k2 o2 s2 n2 (.slice a2 l2.length cap2)) (res_nodR Tryz.results118 _ _ w.heap.size _ _ _ _ _ rfl hrowF) rfl (rnode_end hg hS7 ((zu G6).trans hG57) hcap2 (RepNL.to (fun b hb=>by have h1:=hb.1;have h2:=hb.2;exact⟨⟨by omega,by omega⟩,hG57.block b h2 (by omega)⟩) _ _ (zu L5)) (fun e=>by rw[zu HRS] at e ⊢;exact zu P5 ((zu HKS).ok e).1))
end
end Go.Proofs.YtjnpehohialmbaaGreat
