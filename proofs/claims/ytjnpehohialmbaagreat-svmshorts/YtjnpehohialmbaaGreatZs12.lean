/- A name that is not called;what is none,in the document's own reader. -/
import Derived.Test.YtjnpehohialmbaaGreatZs11
import Derived.Test.YtjnpehohialmbaaGreatZs9
import Derived.Test.YtjnpehohialmbaaGreatZs10
set_option linter.unusedSimpArgs false
set_option linter.unusedVariables false
set_option maxRecDepth 10000
set_option maxHeartbeats 8000000
namespace Go.Proofs.YtjnpehohialmbaaGreat
open Go.RowKit
section
variable {w w':World} {g len:Nat} {T:List Tk} {wd:Int} {st:PS}
theorem first_var (f:Nat) (ex:Rdr) (h0:st.e=0) (hk:(hdT st.ts 0).k=1) (hcall:st.isCall=false) (h:Rp w g len T wd st) :
  Calls Tryz.prog 118 #[.pointer (some ⟨g,0,none⟩)] w (RNode w g len T wd (sglP len ex f st)):=by
 have hg:=h.lt;have htl:=h.tl;have HK:=zh (fun W (x:Ext w W)=>kind_r (h.ext x) h0);rw[hk] at HK;rcases h.hd h0 with⟨hn,_⟩ | ⟨b,off,cap,i,pl,x,r,hx,hi,hd,h1,hb,hcc,hcm,p0,p1,p2,p3,hV⟩
 ·rw[hd_nil hn] at hk;exact absurd hk (by decide)
 rw[hd_cons hx] at hk;obtain⟨i2,ci,hi2,hstep⟩:=h.step h0 (by rw[hx];simp);obtain⟨c0,c1,c2,c3,c4,c5,c6,zf⟩:=rp_c h1;obtain rfl:i=i2:=by
  rw[c1] at ci;injection ci with ci;injection ci with _ ci;omega
 have HS:=zh hstep;have hsg:sglP len ex f st=(⟨19,0,x.t,0,[]⟩,st.next):=by
  unfold sglP;rw[noS (by rw[hd_cons hx,hk];decide),noS (by rw[hd_cons hx,hk];decide),noW (by rw[hd_cons hx,hk];decide),hcall];unfold litP;rw[hd_cons hx];simp[hk]
 rw[hsg];have H1:=zh h1;have hbw:b < w.heap.size:=by omega
 have hbg:(b == g)=false:=by simp;omega
 have hy3:hdT st.ts 1=(T[i+1]?).getD tkZ:=by
  unfold hdT;rw[hx,← hd,List.getElem?_drop]
 have hc2:isT (hdT st.ts 1) 6 ⟨#[40]⟩=false:=by
  unfold PS.isCall at hcall;rw[hd_cons hx,hk] at hcall;exact hcall
 rw[hy3] at hc2;by_cases hi1:i+1 < T.length
 ·obtain⟨b',off',cap',y,hsl,_,_,_,hy',q0,q1,q2,q3⟩:=hV.at (i+1) hi1
  injection hsl with e1 _ _;injection e1 with e1;injection e1 with e1 e2 _;subst e1 e2;have hy2:(T[i+1]?).getD tkZ=y:=hy';rw[hy2] at hc2;unfold isT at hc2;have HQ1:Hd (i+1 < T.length):=hi1;clear h1 h hx hstep ci hV hsg hy3 hd;generalize T.length=N at *;have hq1:¬ ((N:Int)≤(i:Int)+1):=by omega
  have hq2:decide ((N:Int)≤(i:Int)+1)=false:=by simp;omega
  have hq3:(i:Int)+1 < (N:Int):=by omega
  cases hyk:(y.k == 6)
  ·have hyk2:(y.k != 6)=true:=by rw[bne,hyk];rfl
   go_enter Tryz.func118,Tryz.ntmps118
   go_wp2_with (go_at_call 62;refine Calls.mono (zu HK _ (Ext.alloc _ _)) ?_;rintro e w1 ⟨rfl,hw⟩;have X1:=zh ((Ext.alloc _ _).trans hw);have R1:=zh (hw.row (Go.heap_alloc_new w _));have hrg:=(zu X1).row (zu H1);obtain⟨c0,c1,c2,c3,c4,c5,c6,zf⟩:=rp_c hrg;have p1:=(zu X1).cell p1;have q0:=(zu X1).cell q0;have q1:=(zu X1).cell q1;have hg1:w.heap.size < w1.heap.size:=(Array.getElem?_eq_some_iff.1 (zu R1)).1;clear hw hrg)
   have HW:Nonempty (RGw w1):=⟨⟨w1,Ext.refl _⟩⟩;have k0:∀ y:RGw w1,y.w.cell? ⟨g,0,none⟩=some (.slice (some ⟨b,off,none⟩) N cap):=fun y=>y.h.cell c0;have k1:∀ y:RGw w1,y.w.cell? ⟨g,1,none⟩=some (.int .i64 (i:Int)):=fun y=>y.h.cell c1;have k2:∀ y:RGw w1,y.w.cell? ⟨b,off+i * 4+1,none⟩=some (.string x.t):=fun y=>y.h.cell p1;have k3:∀ z:RGw w1,z.w.cell? ⟨b,off+(i+1) * 4,none⟩=some (.int .i64 y.k):=fun z=>z.h.cell q0;have k4:∀ z:RGw w1,z.w.cell? ⟨b,off+(i+1) * 4+1,none⟩=some (.string y.t):=fun z=>z.h.cell q1;clear c0 c1 c2 c3 c4 c5 c6 zf;refine wp_region_rx (W:=w1) (by kernel_rfl) (by kernel_rfl) (Ext.refl _) ?_
   repeat (go_big_quiet_step (fail))
   refine wpQuiet_nil ?_;rintro w2 ⟨n2,hn2⟩;have hx2:Ext w1 w2:=hn2 ▸ n2.h;clear hn2 n2
   go_wp2_with fail
   refine wp_region_rx (W:=w1) (by kernel_rfl) (by kernel_rfl) hx2 ?_
   repeat (go_big_quiet_step (fail))
   refine wpQuiet_nil ?_;rintro w3 ⟨n3,hn3⟩;have hx3:Ext w1 w3:=hn3 ▸ n3.h;clear hn3 n3 hx2 k0 k1 k2 k3 k4 HW;have X3:=zh ((zu X1).trans hx3);have R3:=zh (hx3.row (zu R1));have hrg:=(zu X3).row (zu H1);obtain⟨c0,c1,c2,c3,c4,c5,c6,zf⟩:=rp_c hrg;have r0:=zr (zu R3) 0 rfl;have r1:=zr (zu R3) 1 rfl;have r2:=zr (zu R3) 2 rfl;have r3:=zr (zu R3) 3 rfl;have r4:=zr (zu R3) 4 rfl;have rz:=rowF (zu R3);have hz3:w.heap.size < w3.heap.size:=(Array.getElem?_eq_some_iff.1 (zu R3)).1;have hwg:(w.heap.size == g)=false:=by simp;omega
   clear hx3 X1 R1 hrg
   go_wp2_with fail
   have hS4:Rp (w3.setCell ⟨g,1,none⟩ (.int .i64 ((i:Int)+1))) g len T wd st.next:=zu HS w3 (Gr.of (zu X3)) ((zu X3).block g hg);have hG4:Gr g w (w3.setCell ⟨g,1,none⟩ (.int .i64 ((i:Int)+1))):=(Gr.of (zu X3)).set (p:=⟨g,_,none⟩) (Or.inr rfl) _;have hrowF:(set5 (w3.setCell ⟨g,1,none⟩ (.int .i64 ((i:Int)+1))) w.heap.size 19 0 x.t 0 (.slice none 0 0)).heap[w.heap.size]? = some (nodO 19 0 x.t 0 (.slice none 0 0)):=set5_row (row_other (zu R3) (by show w.heap.size≠g;omega) _ _) _ _ _ _ _;exact bodyPost_ret (v:=nodV 19 0 x.t 0 (.slice none 0 0)) (res_nodR Tryz.results118 _ _ w.heap.size _ _ _ _ _ rfl hrowF) rfl (rnode_end (l:=[]) hg hS4 hG4 (Nat.le_refl _) trivial (fun _=>rfl))
  ·have hyk2:(y.k != 6)=false:=by rw[bne,hyk];rfl
   have hyt:(y.t.toList == (⟨#[40]⟩:ByteArray).toList)=false:=by rw[hyk] at hc2;exact hc2
   have hyt2:(y.t.toList == [40])=false:=by simpa using hyt
   have hyt3:(y.t.toList != [40])=true:=by rw[bne,hyt2];rfl
   go_enter Tryz.func118,Tryz.ntmps118
   go_wp2_with (go_at_call 62;refine Calls.mono (zu HK _ (Ext.alloc _ _)) ?_;rintro e w1 ⟨rfl,hw⟩;have X1:=zh ((Ext.alloc _ _).trans hw);have R1:=zh (hw.row (Go.heap_alloc_new w _));have hrg:=(zu X1).row (zu H1);obtain⟨c0,c1,c2,c3,c4,c5,c6,zf⟩:=rp_c hrg;have p1:=(zu X1).cell p1;have q0:=(zu X1).cell q0;have q1:=(zu X1).cell q1;have hg1:w.heap.size < w1.heap.size:=(Array.getElem?_eq_some_iff.1 (zu R1)).1;clear hw hrg)
   have HW:Nonempty (RGw w1):=⟨⟨w1,Ext.refl _⟩⟩;have k0:∀ y:RGw w1,y.w.cell? ⟨g,0,none⟩=some (.slice (some ⟨b,off,none⟩) N cap):=fun y=>y.h.cell c0;have k1:∀ y:RGw w1,y.w.cell? ⟨g,1,none⟩=some (.int .i64 (i:Int)):=fun y=>y.h.cell c1;have k2:∀ y:RGw w1,y.w.cell? ⟨b,off+i * 4+1,none⟩=some (.string x.t):=fun y=>y.h.cell p1;have k3:∀ z:RGw w1,z.w.cell? ⟨b,off+(i+1) * 4,none⟩=some (.int .i64 y.k):=fun z=>z.h.cell q0;have k4:∀ z:RGw w1,z.w.cell? ⟨b,off+(i+1) * 4+1,none⟩=some (.string y.t):=fun z=>z.h.cell q1;clear c0 c1 c2 c3 c4 c5 c6 zf;refine wp_region_rx (W:=w1) (by kernel_rfl) (by kernel_rfl) (Ext.refl _) ?_
   repeat (go_big_quiet_step (fail))
   refine wpQuiet_nil ?_;rintro w2 ⟨n2,hn2⟩;have hx2:Ext w1 w2:=hn2 ▸ n2.h;clear hn2 n2
   go_wp2_with fail
   refine wp_region_rx (W:=w1) (by kernel_rfl) (by kernel_rfl) hx2 ?_
   repeat (go_big_quiet_step (fail))
   refine wpQuiet_nil ?_;rintro w3 ⟨n3,hn3⟩;have hx3:Ext w1 w3:=hn3 ▸ n3.h;clear hn3 n3 hx2 k0 k1 k2 k3 k4 HW;have X3:=zh ((zu X1).trans hx3);have R3:=zh (hx3.row (zu R1));have hrg:=(zu X3).row (zu H1);obtain⟨c0,c1,c2,c3,c4,c5,c6,zf⟩:=rp_c hrg;have r0:=zr (zu R3) 0 rfl;have r1:=zr (zu R3) 1 rfl;have r2:=zr (zu R3) 2 rfl;have r3:=zr (zu R3) 3 rfl;have r4:=zr (zu R3) 4 rfl;have rz:=rowF (zu R3);have hz3:w.heap.size < w3.heap.size:=(Array.getElem?_eq_some_iff.1 (zu R3)).1;have hwg:(w.heap.size == g)=false:=by simp;omega
   clear hx3 X1 R1 hrg
   go_wp2_with fail
   have hS4:Rp (w3.setCell ⟨g,1,none⟩ (.int .i64 ((i:Int)+1))) g len T wd st.next:=zu HS w3 (Gr.of (zu X3)) ((zu X3).block g hg);have hG4:Gr g w (w3.setCell ⟨g,1,none⟩ (.int .i64 ((i:Int)+1))):=(Gr.of (zu X3)).set (p:=⟨g,_,none⟩) (Or.inr rfl) _;have hrowF:(set5 (w3.setCell ⟨g,1,none⟩ (.int .i64 ((i:Int)+1))) w.heap.size 19 0 x.t 0 (.slice none 0 0)).heap[w.heap.size]? = some (nodO 19 0 x.t 0 (.slice none 0 0)):=set5_row (row_other (zu R3) (by show w.heap.size≠g;omega) _ _) _ _ _ _ _;exact bodyPost_ret (v:=nodV 19 0 x.t 0 (.slice none 0 0)) (res_nodR Tryz.results118 _ _ w.heap.size _ _ _ _ _ rfl hrowF) rfl (rnode_end (l:=[]) hg hS4 hG4 (Nat.le_refl _) trivial (fun _=>rfl))
 ·have HQ1:Hd (¬ i+1 < T.length):=hi1
  clear h1 h hx hstep ci hV hsg hy3 hd;generalize T.length=N at *;have hq1:(N:Int)≤(i:Int)+1:=by omega
  have hq2:decide ((N:Int)≤(i:Int)+1)=true:=by simp;omega
  go_enter Tryz.func118,Tryz.ntmps118
  go_wp2_with (go_at_call 62;refine Calls.mono (zu HK _ (Ext.alloc _ _)) ?_;rintro e w1 ⟨rfl,hw⟩;have X1:=zh ((Ext.alloc _ _).trans hw);have R1:=zh (hw.row (Go.heap_alloc_new w _));have hrg:=(zu X1).row (zu H1);obtain⟨c0,c1,c2,c3,c4,c5,c6,zf⟩:=rp_c hrg;have p1:=(zu X1).cell p1;have hg1:w.heap.size < w1.heap.size:=(Array.getElem?_eq_some_iff.1 (zu R1)).1;clear hw hrg)
  have HW:Nonempty (RGw w1):=⟨⟨w1,Ext.refl _⟩⟩;have k0:∀ y:RGw w1,y.w.cell? ⟨g,0,none⟩=some (.slice (some ⟨b,off,none⟩) N cap):=fun y=>y.h.cell c0;have k1:∀ y:RGw w1,y.w.cell? ⟨g,1,none⟩=some (.int .i64 (i:Int)):=fun y=>y.h.cell c1;have k2:∀ y:RGw w1,y.w.cell? ⟨b,off+i * 4+1,none⟩=some (.string x.t):=fun y=>y.h.cell p1;clear c0 c1 c2 c3 c4 c5 c6 zf;refine wp_region_rx (W:=w1) (by kernel_rfl) (by kernel_rfl) (Ext.refl _) ?_
  repeat (go_big_quiet_step (fail))
  refine wpQuiet_nil ?_;rintro w2 ⟨n2,hn2⟩;have hx2:Ext w1 w2:=hn2 ▸ n2.h;clear hn2 n2
  go_wp2_with fail
  refine wp_region_rx (W:=w1) (by kernel_rfl) (by kernel_rfl) hx2 ?_
  repeat (go_big_quiet_step (fail))
  refine wpQuiet_nil ?_;rintro w3 ⟨n3,hn3⟩;have hx3:Ext w1 w3:=hn3 ▸ n3.h;clear hn3 n3 hx2 k0 k1 k2 HW;have X3:=zh ((zu X1).trans hx3);have R3:=zh (hx3.row (zu R1));have hrg:=(zu X3).row (zu H1);obtain⟨c0,c1,c2,c3,c4,c5,c6,zf⟩:=rp_c hrg;have r0:=zr (zu R3) 0 rfl;have r1:=zr (zu R3) 1 rfl;have r2:=zr (zu R3) 2 rfl;have r3:=zr (zu R3) 3 rfl;have r4:=zr (zu R3) 4 rfl;have rz:=rowF (zu R3);have hz3:w.heap.size < w3.heap.size:=(Array.getElem?_eq_some_iff.1 (zu R3)).1;have hwg:(w.heap.size == g)=false:=by simp;omega
  clear hx3 X1 R1 hrg
  go_wp2_with fail
  have hS4:Rp (w3.setCell ⟨g,1,none⟩ (.int .i64 ((i:Int)+1))) g len T wd st.next:=zu HS w3 (Gr.of (zu X3)) ((zu X3).block g hg);have hG4:Gr g w (w3.setCell ⟨g,1,none⟩ (.int .i64 ((i:Int)+1))):=(Gr.of (zu X3)).set (p:=⟨g,_,none⟩) (Or.inr rfl) _;have hrowF:(set5 (w3.setCell ⟨g,1,none⟩ (.int .i64 ((i:Int)+1))) w.heap.size 19 0 x.t 0 (.slice none 0 0)).heap[w.heap.size]? = some (nodO 19 0 x.t 0 (.slice none 0 0)):=set5_row (row_other (zu R3) (by show w.heap.size≠g;omega) _ _) _ _ _ _ _;exact bodyPost_ret (v:=nodV 19 0 x.t 0 (.slice none 0 0)) (res_nodR Tryz.results118 _ _ w.heap.size _ _ _ _ _ rfl hrowF) rfl (rnode_end (l:=[]) hg hS4 hG4 (Nat.le_refl _) trivial (fun _=>rfl))
end
section
variable {w w':World} {g len:Nat} {T:List Tk} {wd:Int} {st:PS}
theorem first_nil (f:Nat) (ex:Rdr) (h0:st.e=0) (hW:st.isW ⟨#[110,105,108]⟩=true) (h:Rp w g len T wd st) :
  Calls Tryz.prog 118 #[.pointer (some ⟨g,0,none⟩)] w (RNode w g len T wd (sglP len ex f st)):=by
 have hg:=h.lt;have hk2:(hdT st.ts 0).k=2:=by
  unfold PS.isW isT at hW;rw[Bool.and_eq_true] at hW
  simpa using hW.1
 have hsg:sglP len ex f st=(⟨18,0,zE,0,[]⟩,st.next):=by
  unfold sglP;rw[noS (by rw[hk2];decide),noS (by rw[hk2];decide),hW];rfl
 rw[hsg];have HK:=zh (fun W (x:Ext w W)=>kind_r (h.ext x) h0);rw[hk2] at HK;have HTk:Hd (∀ W,Ext w W→Calls Tryz.prog 35 #[.pointer (some ⟨g,0,none⟩),.string ⟨#[110,105,108]⟩] W (RAns W g len T wd (.bool true) st.next)):=fun W x=>by
  have:=take_w (h.ext x) ⟨#[110,105,108]⟩ (by decide +kernel);have e:st.takeW ⟨#[110,105,108]⟩=(true,st.next):=by unfold PS.takeW;rw[hW];rfl
  rw[e] at this;exact this
 obtain⟨V,i,pl,dp,h1,-⟩:=h.ex;rw[h0] at h1;obtain⟨c0,c1,c2,c3,c4,c5,c6,zf⟩:=rp_c h1;clear h1 h hsg
 go_enter Tryz.func118,Tryz.ntmps118
 go_wp2_with (first
  | (go_at_call 62;refine Calls.mono (zu HK _ (Ext.alloc _ _)) ?_;rintro e w1 ⟨rfl,hw⟩;have X1:=zh ((Ext.alloc _ _).trans hw);have R1:=zh (hw.row (Go.heap_alloc_new w _));clear hw)
  | (have T9:=zu X1;go_at_call 35;refine Calls.mono (zu HTk _ T9) ?_;rintro e w2 ⟨rfl,hs,hw⟩;have S2:=zh hs;have G2:=zh ((Gr.of T9).trans hw);have hz1:w.heap.size < w1.heap.size:=(Array.getElem?_eq_some_iff.1 (zu R1)).1;have R2:=zh (hw.row (zu R1) (by omega));have r0:=zr (zu R2) 0 rfl;have r1:=zr (zu R2) 1 rfl;have r2:=zr (zu R2) 2 rfl;have r3:=zr (zu R2) 3 rfl;have r4:=zr (zu R2) 4 rfl;have rz:=rowF (zu R2);clear hw hs T9 X1 R1))
 have hrowF:(set5 w2 w.heap.size 18 0 zE 0 (.slice none 0 0)).heap[w.heap.size]? = some (nodO 18 0 zE 0 (.slice none 0 0)):=set5_row (zu R2) _ _ _ _ _;exact bodyPost_ret (v:=nodV 18 0 zE 0 (.slice none 0 0)) (res_nodR Tryz.results118 _ _ w.heap.size _ _ _ _ _ rfl hrowF) rfl (rnode_end (l:=[]) hg (zu S2) (zu G2) (Nat.le_refl _) trivial (fun _=>rfl))
theorem first_none (f:Nat) (ex:Rdr) (h0:st.e=0) (hk1:(hdT st.ts 0).k≠1) (hk3:(hdT st.ts 0).k≠3) (hk4:(hdT st.ts 0).k≠4) (hk5:(hdT st.ts 0).k≠5) (hW:st.isW ⟨#[110,105,108]⟩=false) (hS0:st.isS ⟨#[40]⟩=false) (hS:st.isS ⟨#[91]⟩=false) (h:Rp w g len T wd st) :
  Calls Tryz.prog 118 #[.pointer (some ⟨g,0,none⟩)] w (RNode w g len T wd (sglP len ex f st)):=by
 have hg:=h.lt;have hsg:sglP len ex f st=(nodeZ,st.fail len 10):=by
  unfold sglP;rw[hS0,hS,hW,noC hk1];unfold litP;simp[hk1,hk3,hk4,hk5]
 rw[hsg];have HK:=zh (fun W (x:Ext w W)=>kind_r (h.ext x) h0);have b1:((hdT st.ts 0).k == 1)=false:=by simpa using hk1
 have b3:((hdT st.ts 0).k == 3)=false:=by simpa using hk3
 have b4:((hdT st.ts 0).k == 4)=false:=by simpa using hk4
 have b5:((hdT st.ts 0).k == 5)=false:=by simpa using hk5
 generalize (hdT st.ts 0).k=kd at *;have HTk:Hd (∀ W,Ext w W→Calls Tryz.prog 35 #[.pointer (some ⟨g,0,none⟩),.string ⟨#[110,105,108]⟩] W (RAns W g len T wd (.bool false) st)):=fun W x=>by
  have:=take_w (h.ext x) ⟨#[110,105,108]⟩ (by decide +kernel);have e:st.takeW ⟨#[110,105,108]⟩=(false,st):=by unfold PS.takeW;rw[hW];rfl
  rw[e] at this;exact this
 have HI1:Hd (∀ W,Rp W g len T wd st→Calls Tryz.prog 63 #[.pointer (some ⟨g,0,none⟩),.string ⟨#[40]⟩] W fun e w'=>e = .returned (.bool false)∧Ext W w'):=fun W x=>by
  have:=is_r x h0 ⟨#[40]⟩;rw[isA_S x h0 (by decide +kernel),hS0] at this;exact this
 have HI2:Hd (∀ W,Rp W g len T wd st→Calls Tryz.prog 63 #[.pointer (some ⟨g,0,none⟩),.string ⟨#[91]⟩] W fun e w'=>e = .returned (.bool false)∧Ext W w'):=fun W x=>by
  have:=is_r x h0 ⟨#[91]⟩;rw[isA_S x h0 (by decide +kernel),hS] at this;exact this
 have HF:=zh (fun (W:World) (x:Rp W g len T wd st)=>fail_r x 10 (by decide));have HE:Hd ((st.fail len 10).e≠0):=by
  unfold PS.fail;rw[if_pos h0];exact(show ¬ (10:Int)=0 by decide)
 obtain⟨V,i,pl,dp,h1,-⟩:=h.ex;rw[h0] at h1;obtain⟨c0,c1,c2,c3,c4,c5,c6,zf⟩:=rp_c h1;clear h1 h hsg hk1 hk3 hk4 hk5
 go_enter Tryz.func118,Tryz.ntmps118
 go_wp2_with (first
  | (go_at_call 62;refine Calls.mono (zu HK _ (Ext.alloc _ _)) ?_;rintro e w1 ⟨rfl,hw⟩;have X1:=zh ((Ext.alloc _ _).trans hw);have R1:=zh (hw.row (Go.heap_alloc_new w _));clear hw)
  | (have T9:=zu X1;go_at_call 35;refine Calls.mono (zu HTk _ T9) ?_;rintro e w2 ⟨rfl,hs,hw⟩;have S2:=zh hs;have G2:=zh ((Gr.of T9).trans hw);have hz1:w.heap.size < w1.heap.size:=(Array.getElem?_eq_some_iff.1 (zu R1)).1;have R2:=zh (hw.row (zu R1) (by omega));clear hw hs T9 X1 R1)
  | (have T9:=zu S2;go_at_call 63;refine Calls.mono (zu HI1 _ T9) ?_;rintro e w3 ⟨rfl,hw⟩;have S2b:=zh (T9.ext hw);have G2b:=zh ((zu G2).trans (Gr.of hw));have R2b:=zh (hw.row (zu R2));clear hw T9 S2 G2 R2)
  | (have T9:=zu S2b;go_at_call 63;refine Calls.mono (zu HI2 _ T9) ?_;rintro e w3b ⟨rfl,hw⟩;have S3:=zh (T9.ext hw);have G3:=zh ((zu G2b).trans (Gr.of hw));have R3:=zh (hw.row (zu R2b));clear hw T9 S2b G2b R2b)
  | (have T9:=zu S3;go_at_call 61;refine Calls.mono (zu HF _ T9) ?_;rintro e w4 ⟨rfl,hs,hw⟩;have S4:=zh hs;have hz3:w.heap.size < w3b.heap.size:=(Array.getElem?_eq_some_iff.1 (zu R3)).1;have G4:=zh ((zu G3).trans hw);have R4:=zh (hw.row (zu R3) (by omega));have r0:=zr (zu R4) 0 rfl;have r1:=zr (zu R4) 1 rfl;have r2:=zr (zu R4) 2 rfl;have r3:=zr (zu R4) 3 rfl;have r4:=zr (zu R4) 4 rfl;have rz:=rowF (zu R4);clear hw hs T9 S3 G3 R3))
 have hrowF:(set5 w4 w.heap.size 0 0 zE 0 (.slice none 0 0)).heap[w.heap.size]? = some (nodO 0 0 zE 0 (.slice none 0 0)):=set5_row (zu R4) _ _ _ _ _;exact bodyPost_ret (v:=nodV 0 0 zE 0 (.slice none 0 0)) (res_nodR Tryz.results118 _ _ w.heap.size _ _ _ _ _ rfl hrowF) rfl (rnode_end (l:=[]) hg (zu S4) (zu G4) (Nat.le_refl _) trivial (fun e=>absurd e (zu HE)))
end
section
variable {w w':World} {g len:Nat} {T:List Tk} {wd:Int} {st:PS}
theorem first_r (f:Nat) (ex:Rdr) (hge:GoodR ex) (hse:Shorter ex) (hf:st.ts.length < f) (hf2:f≤100000) (hex:∀ s:PS,s.ts.length < st.ts.length→RIs g len T wd 1 ex s) (h0:st.e=0) (h:Rp w g len T wd st) :
  Calls Tryz.prog 118 #[.pointer (some ⟨g,0,none⟩)] w (RNode w g len T wd (sglP len ex f st)):=by
 by_cases h3:(hdT st.ts 0).k=3
 ·exact first_3 f ex h0 h3 h
 by_cases h4:(hdT st.ts 0).k=4
 ·exact first_4 f ex h0 h4 h
 by_cases h5:(hdT st.ts 0).k=5
 ·exact first_5 f ex h0 h5 h
 by_cases h1:(hdT st.ts 0).k=1
 ·cases hc:st.isCall
  ·exact first_var f ex h0 h1 hc h
  ·exact first_call f ex hge hse hf hf2 hex h0 h1 hc h
 cases hW:st.isW ⟨#[110,105,108]⟩
 ·cases hS0:st.isS ⟨#[40]⟩
  ·cases hS:st.isS ⟨#[91]⟩
   ·exact first_none f ex h0 h1 h3 h4 h5 hW hS0 hS h
   ·exact first_list f ex hge hse hf hf2 hex h0 hS h
  ·exact first_par f ex hge hse hf hf2 hex h0 hS0 h
 ·exact first_nil f ex h0 hW h
theorem rsgn (f:Nat) (hf2:f+1≤100000) (sg ex:Rdr) (hgs:GoodR sg) (hge:GoodR ex) (hse:Shorter ex) (h6:∀ s:PS,s.ts.length < f→RIs g len T wd 6 sg s) (h1:∀ s:PS,s.ts.length < f→RIs g len T wd 1 ex s) (st:PS) (hl:st.ts.length < f+1):RIs g len T wd 6 (sgnP len sg ex (f+1)) st:=by
 intro W x;refine lev6_r (sgnP len sg ex (f+1)) (sgn_kp hgs hge (f+1)) (fun W2 x2 h0 => ?_) x;refine ahead_r (f+1) sg ex hgs hge h0 (fun W3 x3 => ?_) (fun s hs=>h6 s (by omega)) x2;exact lev7_r (f+1) ex hge hse hl (fun W4 x4=>first_r (f+1) ex hge hse hl hf2 (fun s hs=>h1 s (by omega)) h0 x4) (fun s hs=>h1 s (by omega)) x3
theorem rlevels (f:Nat) (sg:Rdr) (hgs:GoodR sg) (hss:Shorter sg) (h6:∀ s:PS,s.ts.length < f→RIs g len T wd 6 sg s) (st:PS) (hl:st.ts.length < f):RIs g len T wd 1 (orP sg f) st:=by
 have h5:∀ s:PS,s.ts.length < f→RIs g len T wd 5 (prdP sg f) s:=fun s hs W x=>lev5_r f sg hgs hss hs (fun s2 h2=>h6 s2 (by omega)) x;have h4:∀ s:PS,s.ts.length < f→RIs g len T wd 4 (sumP sg f) s:=fun s hs W x=>lev4_r f (prdP sg f) (prd_kp hgs f) (prd_le hss f) hs (fun s2 h2=>h5 s2 (by omega)) x;have h3:∀ s:PS,s.ts.length < f→RIs g len T wd 3 (cmpP (sumP sg f)) s:=fun s hs W x=>lev3_r f (sumP sg f) (sum_kp hgs f) (sum_le hss f) hs (fun s2 h2=>h4 s2 (by omega)) x;have h2:∀ s:PS,s.ts.length < f→RIs g len T wd 2 (botP sg f) s:=fun s hs W x=>lev2_r f (cmpP (sumP sg f)) (cmp_kp (sum_kp hgs f)) (cmp_le (sum_le hss f)) hs (fun s2 h2=>h3 s2 (by omega)) x;exact fun W x=>lev1_r f (botP sg f) (bot_kp hgs f) (bot_le hss f) hl (fun s2 h9=>h2 s2 (by omega)) x
theorem rboth (f:Nat):f≤100000→(∀ s:PS,s.ts.length < f→RIs g len T wd 6 (bothP len f).1 s)∧(∀ s:PS,s.ts.length < f→RIs g len T wd 1 (bothP len f).2 s):=by
 induction f with
 | zero=>exact fun _=>⟨fun s h=>absurd h (Nat.not_lt_zero _),fun s h=>absurd h (Nat.not_lt_zero _)⟩
 | succ f ih =>
  intro hf;obtain⟨h6,h1⟩:=ih (Nat.le_trans (Nat.le_succ f) hf);obtain⟨k1,k2⟩:=both_kp len f;obtain⟨l1,l2⟩:=both_le len f;have h:∀ s:PS,s.ts.length < f+1→RIs g len T wd 6 (sgnP len (bothP len f).1 (bothP len f).2 (f+1)) s:=fun s hs=>rsgn f hf (bothP len f).1 (bothP len f).2 k1 k2 l2 h6 h1 s hs;have e1:(bothP len (f+1)).1=sgnP len (bothP len f).1 (bothP len f).2 (f+1):=by rw[bothP]
  have e2:(bothP len (f+1)).2=orP (sgnP len (bothP len f).1 (bothP len f).2 (f+1)) (f+1):=by rw[bothP]
  rw[e1,e2];exact⟨h,fun s hs=>rlevels (f+1) (sgnP len (bothP len f).1 (bothP len f).2 (f+1)) (sgn_kp k1 k2 (f+1)) (sgn_le l1 l2 (f+1)) h s hs⟩
theorem rex (f:Nat) (hf:f≤100000) (s:PS) (hs:s.ts.length < f):RIs g len T wd 1 (exP len f) s:=(rboth f hf).2 s hs
end
section
variable {w w':World} {g len:Nat} {T:List Tk} {wd:Int} {st:PS}
theorem name_r (h:Rp w g len T wd st):Calls Tryz.prog 34 #[.pointer (some ⟨g,0,none⟩)] w (RAns w g len T wd (.string (st.name len).1) (st.name len).2):=by
 have hg:=h.lt;have htl:=h.tl;have HF:=zh (fun (W:World) (x:Rp W g len T wd st)=>fail_r x 10 (by decide));have H:=zh h;by_cases h0:st.e=0
 ·have HK:=zh (kind_r h h0)
  by_cases hk:(hdT st.ts 0).k=1
  ·rcases h.hd h0 with⟨hn,_⟩ | ⟨b,off,cap,i,pl,x,r,hx,hi,hd,h1,hb,hcc,hcm,p0,p1,p2,p3,-⟩
   ·rw[hd_nil hn] at hk;exact absurd hk (by decide)
   have e1:st.name len=(x.t,st.next):=by unfold PS.name;rw[if_pos hk,hd_cons hx]
   rw[e1];rw[hk] at HK;obtain⟨i2,ci,hi2,hstep⟩:=h.step h0 (by rw[hx];simp);obtain⟨c0,c1,c2,c3,c4,c5,c6,zf⟩:=rp_c h1;obtain rfl:i=i2:=by
    rw[c1] at ci;injection ci with ci;injection ci with _ ci;omega
   have HS:=zh hstep;have H1:=zh h1;have hbg:(b == g)=false:=by simp;omega
   clear h1 h hd hx hstep ci e1 hk;generalize T.length=N at *
   go_enter Tryz.func34,Tryz.ntmps34
   go_wp2_with (go_at_call 62;refine Calls.mono (zu HK) ?_;rintro e w1 ⟨rfl,hw⟩;have X1:=zh hw;have hrg:=hw.row (zu H1);obtain⟨c0,c1,c2,c3,c4,c5,c6,zf⟩:=rp_c hrg;have p1:=hw.cell p1;clear hw hrg)
   obtain⟨W1,hW1⟩:∃ W1,W1=w1.setCell ⟨g,1,none⟩ (.int .i64 ((i:Int)+1)):=⟨_,rfl⟩;rw[← hW1];have hS1:Rp W1 g len T wd st.next:=by rw[hW1];exact zu HS w1 (Gr.of (zu X1)) ((zu X1).block g hg)
   have hG1:Gr g w1 W1:=by rw[hW1];exact(Gr.refl _ _).set (p:=⟨g,_,none⟩) (Or.inr rfl) _
   have hrg:W1.heap[g]? = some (rpO (.slice (some ⟨b,off,none⟩) N cap) (i+1) 0 pl st.op len wd):=by rw[hW1];exact row_set ((zu X1).row (zu H1)) 1 _
   have p1:=hG1.cell p1 (by omega);clear c0 c1 c2 c3 c4 c5 c6 zf;obtain⟨c0,c1,c2,c3,c4,c5,c6,zf⟩:=rp_c hrg;have hi1:(((i+1:Nat):Int))=(i:Int)+1:=by omega
   rw[hi1] at c1;have HW:Nonempty (RGw W1):=⟨⟨W1,Ext.refl _⟩⟩;have k0:∀ y:RGw W1,y.w.cell? ⟨g,0,none⟩=some (.slice (some ⟨b,off,none⟩) N cap):=fun y=>y.h.cell c0;have k1:∀ y:RGw W1,y.w.cell? ⟨g,1,none⟩=some (.int .i64 ((i:Int)+1)):=fun y=>y.h.cell c1;have k2:∀ y:RGw W1,y.w.cell? ⟨b,off+i * 4+1,none⟩=some (.string x.t):=fun y=>y.h.cell p1;have S1:=zh hS1;have G1:=zh ((Gr.of (zu X1)).trans hG1);clear hW1 hrg hS1 hG1 c0 c1 c2 c3 c4 c5 c6 zf p0 p1 p2 p3;refine wp_region_rx (W:=W1) (by kernel_rfl) (by kernel_rfl) (Ext.refl _) ?_
   repeat (go_big_quiet_step (fail))
   refine wpQuiet_nil ?_;rintro w2 ⟨n2,hn2⟩;have hx2:Ext W1 w2:=hn2 ▸ n2.h;clear hn2 n2
   go_wp2_with fail
   go_ret;exact⟨rfl,(zu S1).ext hx2,(zu G1).trans (Gr.of hx2)⟩
  ·have e1:st.name len=(zE,st.fail len 10):=by unfold PS.name;rw[if_neg hk]
   rw[e1];have hkb:((hdT st.ts 0).k == 1)=false:=by simpa using hk
   have hkb2:((hdT st.ts 0).k != 1)=true:=by rw[bne,hkb];rfl
   obtain⟨V,i,pl,dp,h1,-⟩:=h.ex;rw[h0] at h1;obtain⟨c0,c1,c2,c3,c4,c5,c6,zf⟩:=rp_c h1;generalize (hdT st.ts 0).k=kd at *;clear h1 h e1 hk
   go_enter Tryz.func34,Tryz.ntmps34
   go_wp2_with (first
    | (go_at_call 62;refine Calls.mono (zu HK) ?_;rintro e w1 ⟨rfl,hw⟩;have X1:=zh hw;clear hw)
    | (have T9:=zu X1;go_at_call 61;refine Calls.mono (zu HF _ ((zu H).ext T9)) ?_;rintro e w2 ⟨rfl,hr,hw⟩;have X2:=zh ((Gr.of T9).trans hw);have R2:=zh hr;clear hw hr T9))
   go_ret;exact⟨rfl,zu R2,zu X2⟩
 ·have e1:st.name len=(zE,st.fail len 10):=by unfold PS.name;rw[if_neg (by rw[hd_nil (h.nv.nil h0)];decide)]
  rw[e1];have he3:(st.e != 0)=true:=by simp[h0]
  have he2:(st.e == 0)=false:=by simpa using h0
  obtain⟨V,i,pl,dp,h1,-⟩:=h.ex;obtain⟨c0,c1,c2,c3,c4,c5,c6,zf⟩:=rp_c h1;clear h1 h e1 h0
  go_enter Tryz.func34,Tryz.ntmps34
  go_wp2_with (have T9:=zu H;go_at_call 61;refine Calls.mono (zu HF _ T9) ?_;rintro e w2 ⟨rfl,hr,hw⟩;have X2:=zh hw;have R2:=zh hr;clear hw hr T9)
  go_ret;exact⟨rfl,zu R2,zu X2⟩
end
section
theorem ofEx_kp {len:Nat} {ex:Rdr} (h:GoodR ex) (k:Int):GoodR (ofExP len ex k):=fun st n=>(h st n).trans (psign_kp ((h st n).nv n) len _)
theorem plain_kp (len:Nat) (k:Int):GoodR (plainP len k):=fun st n=>psign_kp n len _
theorem answer_kp {len:Nat} {ex:Rdr} (h:GoodR ex):GoodR (answerP len ex):=by
 intro st n;unfold answerP
 split
 ·exact plain_kp len 7 st n
 ·exact ofEx_kp h 7 st n
theorem named_kp {len:Nat} {ex:Rdr} (h:GoodR ex) (k:Int):GoodR (namedP len ex k):=by
 intro st n;have h1:=name_kp n len;have n1:=h1.nv n;have h2:=psign_kp n1 len ⟨#[61]⟩;exact h1.trans (h2.trans (ofEx_kp h k _ (h2.nv n1)))
theorem blkLoop_kp {sm:Rdr} (h:GoodR sm):∀ (f:Nat) (acc:List PN) (st:PS),Nv st→Kp st (blkLoop sm f acc st).2
 | 0,acc,st,n=>Kp.refl n
 | f+1,acc,st,n=>by
  rw[blkLoop]
  split
  ·exact Kp.refl n
  ·exact(h st n).trans (blkLoop_kp h f _ _ ((h st n).nv n))
theorem blk_kp {len:Nat} {sm:Rdr} (h:GoodR sm) (f:Nat):GoodR (blkP len sm f):=by
 intro st n;unfold blkP
 split
 ·refine br_kp (len:=len) n ?_
  have n1:=enter_nv n len;have h1:=next_kp n1;have n2:=h1.nv n1;have h2:=blkLoop_kp h f [] _ n2;exact h1.trans (h2.trans (psign_kp (h2.nv n2) len _))
 ·exact fail_kp _ _ (by decide)
theorem cho_kp {ex bl ot:Rdr} (h:GoodR ex) (hb:GoodR bl) (ho:GoodR ot):GoodR (choP ex bl ot):=by
 intro st n;have h1:=h st n;have n1:=h1.nv n;have h2:=hb _ n1;have n2:=h2.nv n1;unfold choP
 split
 ·have h3:=next_kp n2
  exact h1.trans (h2.trans (h3.trans (ho _ (h3.nv n2))))
 ·exact h1.trans h2
theorem oth_kp {ch bl:Rdr} (h:GoodR ch) (hb:GoodR bl):GoodR (othP ch bl):=by
 intro st n;unfold othP
 split
 ·exact(next_kp n).trans (h _ ((next_kp n).nv n))
 ·exact hb st n
theorem whi_kp {ex bl:Rdr} (h:GoodR ex) (hb:GoodR bl):GoodR (whiP ex bl):=fun st n=>(h st n).trans (hb _ ((h st n).nv n))
theorem stm_kp {len:Nat} {ex bl ch:Rdr} (h:GoodR ex) (hb:GoodR bl) (hc:GoodR ch):GoodR (stmP len ex bl ch):=by
 intro st n;have k:=next_kp n;have m:=k.nv n;unfold stmP
 split
 ·exact k.trans (named_kp h 1 _ m)
 split
 ·exact named_kp h 2 _ n
 split
 ·exact k.trans (hc _ m)
 split
 ·exact k.trans (whi_kp h hb _ m)
 split
 ·exact k.trans (plain_kp len 5 _ m)
 split
 ·exact k.trans (plain_kp len 6 _ m)
 split
 ·exact k.trans (answer_kp h _ m)
 split
 ·exact k.trans (ofEx_kp h 8 _ m)
 ·exact ofEx_kp h 9 _ n
theorem sts_kp (len fe:Nat):∀ f,GoodR (stsP len fe f).1∧GoodR (stsP len fe f).2.1∧GoodR (stsP len fe f).2.2
 | 0=>⟨fun _ n=>Kp.refl n,fun _ n=>Kp.refl n,fun _ n=>Kp.refl n⟩
 | f+1=>by
  obtain⟨h1,h2,h3⟩:=sts_kp len fe f;rw[stsP];exact⟨stm_kp (ex_kp len fe) h2 h3,blk_kp h1 _,cho_kp (ex_kp len fe) (blk_kp h1 _) (oth_kp h3 h2)⟩
theorem parLoop_kp (len:Nat):∀ (f:Nat) (acc:List ByteArray) (st:PS),Nv st→Kp st (parLoop len f acc st).2
 | 0,acc,st,n=>Kp.refl n
 | f+1,acc,st,n=>by
  rw[parLoop]
  split
  ·have h1:=next_kp n
   have n1:=h1.nv n;have h2:=name_kp n1 len;exact h1.trans (h2.trans (parLoop_kp len f _ _ (h2.nv n1)))
  ·exact Kp.refl n
theorem par_kp (len f:Nat) (st:PS) (n:Nv st):Kp st (parP len f st).2:=by
 unfold parP
 split
 ·exact next_kp n
 ·have h1:=name_kp n len
  have n1:=h1.nv n;have h2:=parLoop_kp len f [(st.name len).1] _ n1;exact h1.trans (h2.trans (psign_kp (h2.nv n1) len _))
theorem funA_kp (len:Nat) (st:PS) (n:Nv st):Kp st (funA len st).2:=(pword_kp n len _).trans (name_kp ((pword_kp n len _).nv n) len)
theorem funB_kp (len f:Nat) (st:PS) (n:Nv st):Kp st (funB len f st).2:=by
 have h1:=funA_kp len st n;have n1:=h1.nv n;have h2:=psign_kp n1 len ⟨#[40]⟩;exact h1.trans (h2.trans (par_kp len f _ (h2.nv n1)))
theorem fun_kp (len:Nat) {bl:Rdr} (hb:GoodR bl) (f:Nat) (st:PS) (n:Nv st):Kp st (funP len bl f st).2:=(funB_kp len f st n).trans (hb _ ((funB_kp len f st n).nv n))
theorem funs_kp (len:Nat) {bl:Rdr} (hb:GoodR bl) (f:Nat):∀ (j:Nat) (acc:List PFn) (st:PS),Nv st→Kp st (funsP len bl f j acc st).2
 | 0,acc,st,n=>Kp.refl n
 | j+1,acc,st,n=>by
  rw[funsP]
  split
  ·exact Kp.refl n
  ·exact(fun_kp len hb f st n).trans (funs_kp len hb f j _ _ ((fun_kp len hb f st n).nv n))
end
end Go.Proofs.YtjnpehohialmbaaGreat
