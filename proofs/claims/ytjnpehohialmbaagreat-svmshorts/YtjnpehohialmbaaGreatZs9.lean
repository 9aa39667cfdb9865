/- A literal,in the document's own reader. -/
import Derived.Test.YtjnpehohialmbaaGreatZs8
set_option linter.unusedSimpArgs false
set_option linter.unusedVariables false
set_option maxRecDepth 10000
set_option maxHeartbeats 8000000
namespace Go.Proofs.YtjnpehohialmbaaGreat
open Go.RowKit
section
variable {w w':World} {g len:Nat} {T:List Tk} {wd:Int} {st:PS}
theorem first_3 (f:Nat) (ex:Rdr) (h0:st.e=0) (hk:(hdT st.ts 0).k=3) (h:Rp w g len T wd st) :
  Calls Tryz.prog 118 #[.pointer (some ⟨g,0,none⟩)] w (RNode w g len T wd (sglP len ex f st)):=by
 have hg:=h.lt;have htl:=h.tl;have e1:sglP len ex f st=(⟨15,0,zE,(hdT st.ts 0).n,[]⟩,st.next):=by
  unfold sglP;rw[noS (by rw[hk];decide),noS (by rw[hk];decide),noW (by rw[hk];decide),noC (by rw[hk];decide)];unfold litP;simp[hk]
 rw[e1];have HK:=zh (fun W (x:Ext w W)=>kind_r (h.ext x) h0);rw[hk] at HK;rcases h.hd h0 with⟨hn,_⟩ | ⟨b,off,cap,i,pl,x,r,hx,hi,hd,h1,hb,hcc,hcm,p0,p1,p2,p3,-⟩
 ·rw[hd_nil hn] at hk;exact absurd hk (by decide)
 rw[hd_cons hx] at hk ⊢;obtain⟨i2,ci,hi2,hstep⟩:=h.step h0 (by rw[hx];simp);obtain⟨c0,c1,c2,c3,c4,c5,c6,zf⟩:=rp_c h1;obtain rfl:i=i2:=by
  rw[c1] at ci;injection ci with ci;injection ci with _ ci;omega
 have HS:=zh hstep;have H1:=zh h1;have hbw:b < w.heap.size:=by omega
 have hbg:(b == g)=false:=by simp;omega
 clear h1 h hd hx hstep ci e1;generalize T.length=N at *
 go_enter Tryz.func118,Tryz.ntmps118
 go_wp2_with (go_at_call 62;refine Calls.mono (zu HK _ (Ext.alloc _ _)) ?_;rintro e w1 ⟨rfl,hw⟩;have X1:=zh ((Ext.alloc _ _).trans hw);have R1:=zh (hw.row (Go.heap_alloc_new w _));have r0:=zr (zu R1) 0 rfl;have r1:=zr (zu R1) 1 rfl;have r2:=zr (zu R1) 2 rfl;have r3:=zr (zu R1) 3 rfl;have r4:=zr (zu R1) 4 rfl;have rz:=rowF (zu R1);have hrg:=(zu X1).row (zu H1);obtain⟨c0,c1,c2,c3,c4,c5,c6,zf⟩:=rp_c hrg;have p0:=(zu X1).cell p0;have p1:=(zu X1).cell p1;have p2:=(zu X1).cell p2;have p3:=(zu X1).cell p3;have hg1:w.heap.size < w1.heap.size:=(Array.getElem?_eq_some_iff.1 (zu R1)).1;clear hw hrg)
 obtain⟨W1,hW1⟩:∃ W1,W1=w1.setCell ⟨g,1,none⟩ (.int .i64 ((i:Int)+1)):=⟨_,rfl⟩;rw[← hW1];have hS1:Rp W1 g len T wd st.next:=by rw[hW1];exact zu HS w1 (Gr.of (zu X1)) ((zu X1).block g hg)
 have hG1:Gr g w1 W1:=by rw[hW1];exact(Gr.refl _ _).set (p:=⟨g,_,none⟩) (Or.inr rfl) _
 have hrg:W1.heap[g]? = some (rpO (.slice (some ⟨b,off,none⟩) N cap) (i+1) 0 pl st.op len wd):=by rw[hW1];exact row_set ((zu X1).row (zu H1)) 1 _
 have R2:=zh (hG1.row (zu R1) (by omega));have p0:=hG1.cell p0 (by omega);have p1:=hG1.cell p1 (by omega);have p2:=hG1.cell p2 (by omega);have p3:=hG1.cell p3 (by omega);clear r0 r1 r2 r3 r4 rz c0 c1 c2 c3 c4 c5 c6 zf;obtain⟨c0,c1,c2,c3,c4,c5,c6,zf⟩:=rp_c hrg;have r0:=zr (zu R2) 0 rfl;have r1:=zr (zu R2) 1 rfl;have r2:=zr (zu R2) 2 rfl;have r3:=zr (zu R2) 3 rfl;have r4:=zr (zu R2) 4 rfl;have rz:=rowF (zu R2);have S1:=zh hS1;have G1:=zh ((Gr.of (zu X1)).trans hG1);have hi1:(((i+1:Nat):Int))=(i:Int)+1:=by omega
 rw[hi1] at c1;have hgW:g < W1.heap.size:=hS1.lt;clear hW1 hrg hS1 hG1
 go_region
 go_wp2_with fail
 exact bodyPost_ret (v:=nodV 15 0 zE x.n (.slice none 0 0)) (by simp[results,Tryz.results118,go_sem,r0,r1,r2,r3,r4]) rfl (rnode_end (l:=[]) hg ((zu S1).ext (Ext.drew (Ext.refl _))) (zu G1).drew (Nat.le_refl _) trivial (fun _=>rfl))
end
end Go.Proofs.YtjnpehohialmbaaGreat
